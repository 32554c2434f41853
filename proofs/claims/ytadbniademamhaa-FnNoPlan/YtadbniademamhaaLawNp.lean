/- Bounds that are refuted: the law, walked. -/
import Derived.Test.YtadbniademamhaaDbf
import Derived.Test.YtadbniademamhaaNop
import Derived.Test.YtadbniademamhaaRfs
import Derived.Test.YtadbniademamhaaRfj
import Derived.Test.YtadbniademamhaaRwb
import Derived.Laws.AppendOwnNone
namespace Go.Proofs.Ytadbniademamhaa
open Go.RowKit

/-- an append of a list that lies -/
theorem growPx (w : World) {ops : Array Oper} {rest : List Oper} {o : Oper} {a : Act} {Q : Exit → Act → World → Prop} (hgd : o.guard = none) (s x : Operand)
    (ho : o.op = .call { callee := .builtin .append, args := #[s, x], argTypes := #[25, 25] }) (B : Nat) (v : Value) (n : Nat) (L : List Int) (hs : a.eval s = v) (w0 : World) (hown : w.ownsRow B 2 1 v n (ints L))
    (hb : Below B w0 w) (hB : B ≤ w.heap.size) (b off m c : Nat) (f : Nat → Int) (hx : a.eval x = .slice (some ⟨b, off, none⟩) m c) (hc : ∀ k, k < m → w.cell? ⟨b, off + k, none⟩ = some (.int .i64 (f k))) (hn : n + m ≤ 100000)
    (h : ∀ v' w', w'.ownsRow B 2 1 v' (n + m) (ints (L ++ fl f m)) → Below B w0 w' → wpList Try.prog ops Q rest (a.put o.dst v') w') :
    wpList Try.prog ops Q (o :: rest) a w := by
  obtain ⟨ti, hi1, hi2, hi3, hi4⟩ := info2
  refine wpList_append_own _ hgd s x 25 ho B 2 ti (.int .i64 0) 1 8 Try.underlying25 hi1 hi2 hi3 hi4 rfl (by omega) v n (ints L) hs hown ⟨b, off, none⟩ m c (ints (fl f m)) hx (by rw [ints_length, fl_len]; omega) ?_ (ints_one _) (by unfold maxLen; omega) (by omega) hB ?_
  · intro j u hu
    have hj : j < m := by
      have := (List.getElem?_eq_some_iff.1 hu).1
      rwa [ints_length, fl_len] at this
    have e : (⟨b, off, none⟩ : Addr).add j = ⟨b, off + j, none⟩ := by by_cases h0 : j = 0 <;> simp [Addr.add, h0]
    rw [e, hc j hj, ← hu, ints_at _ _ (by rw [fl_len]; exact hj), fl_at f m j hj]
  · intro v' w' h1 h2 _
    have hr3 : ∀ q, Value.ownBlock v = some q → B ≤ q := fun q hq => (hown.lt q hq).1
    refine h v' w' ?_ (hb.trans ((Below.refl _ _).grown h2 hB hr3))
    rw [ints_append]; exact h1

set_option maxRecDepth 100000 in
set_option maxHeartbeats 8000000 in
theorem fnNoPlan_walk (c0 : Option Addr) (n0 k0 : Nat) (c1 : Option Addr) (n1 k1 : Nat) (w : World) (hy0 : Bytes c0 n0 w) (hy1 : Bytes c1 n1 w) :
    Calls Try.prog 3 #[.slice c0 n0 k0, .slice c1 n1 k1] w fun e w' => e = .returned (.bool true) ∧ Below w.heap.size w w' := by
  have g1 := big_any c0 n0 k0
  have g2 := big_any c1 n1 k1
  have HB1 := hide hy0
  have HB2 := hide hy1
  clear hy0 hy1
  go_enter Try.func3, Try.ntmps3
  go_wp2_with fail
  refine (g1 _).mono ?_
  rintro e w1 ⟨rfl, rfl⟩
  cases hd1 : decide (1048576 < n0)
  case true =>
    clear hd1
    go_wp2_with fail
    go_ret
    exact ⟨rfl, Below.refl _ _⟩
  go_wp2_with fail
  refine (g2 _).mono ?_
  rintro e w2 ⟨rfl, rfl⟩
  cases hd2 : decide (1048576 < n1)
  case true =>
    clear hd2
    go_wp2_with fail
    go_ret
    exact ⟨rfl, Below.refl _ _⟩
  clear hd1 hd2 g1 g2
  have cP := drawRefutes_any c0 n0 k0 w2 HB1.out
  go_wp2_with fail
  refine cP.mono ?_
  rintro e w3 ⟨a, m, cp, ad, ln, cq, F, Bv, a', n, cr, g, rfl, hmc, hm6, hpx, hln, hpg, hn7, hb⟩
  have HWA := hide hb
  have HP := hide hpx
  have HG := hide hpg
  have HLn := hide hln
  have HM : Hid (m ≤ 6 ∧ n ≤ 7) := ⟨hm6, hn7⟩
  clear cP hb hpx hpg hln hmc hm6 hn7 HB1
  have cS := fun w' h h' => specRefutes_any a m cp ad ln cq F Bv (by have := HM.out; omega) (fun i hi => by have := HLn.out i hi; omega) a' n cr g (by have := HM.out; omega) w' h h'
  have cI := fun w' h h' => implRefutes_any a m cp ad ln cq F Bv (by have := HM.out; omega) (fun i hi => by have := HLn.out i hi; omega) a' n cr g (by have := HM.out; omega) w' h h'
  have cK := fun x n' cx' x' (hn : n' ≤ 1048576) w' h h' => implKeeps_any a m cp ad ln cq F Bv (by have := HM.out; omega) (fun i hi => by have := HLn.out i hi; omega) x n' cx' x' hn w' h h'
  have HCI := hide cI
  have HCK := hide cK
  clear cI cK
  cases hr : refB m ln F Bv n g
  case false =>
    rw [hr] at cS
    go_wp2_with fail
    refine (cS _ HP.out HG.out).mono ?_
    rintro e w4 ⟨rfl, hb⟩
    have HB := hide (bnext HWA.out (Nat.le_refl _) hb)
    clear cS hb
    go_wp2_with fail
    go_ret
    exact ⟨rfl, HB.out⟩
  rw [hr] at cS
  have HNK : Hid (∀ n' x, kepB m ln F Bv n' x = false) := fun n' x => no_keep hr n' x
  have HBD := hide (bdB_parts (refB_parts hr).1)
  have HR := hide hr
  clear hr
  go_wp2_with fail
  refine (cS _ HP.out HG.out).mono ?_
  rintro e w4 ⟨rfl, hb⟩
  have HP4 := hide (HP.out.below hb)
  have HG4 := hide (HG.out.below hb)
  have HB4 := hide (bnext HWA.out (Nat.le_refl _) hb)
  clear cS hb HP HG HWA
  have HY4 := hide (HB2.out.below HB4.out)
  clear HB2
  obtain ⟨b, off, rfl, -, -⟩ := HP4.out.at (i := 0) (by have := HBD.out; omega)
  have hm0 : 0 < m := by have := HBD.out; omega
  have hm0i : (0 : Int) < (m : Int) := by omega
  have hl0 : Hid (1 ≤ ln 0 ∧ ln 0 ≤ 5) := HLn.out 0 hm0
  obtain ⟨bx, offx, hax, hcx⟩ : ∃ bx offx, ad 0 = some ⟨bx, offx, none⟩ ∧ ∀ k, k < ln 0 → w4.cell? ⟨bx, offx + k, none⟩ = some (.int .i64 (F 0 k)) := by
    rcases HP4.out.2 0 hm0 with h | ⟨bx, offx, h1, h2⟩
    · have := hl0.out; omega
    · exact ⟨bx, offx, h1, h2⟩
  have y4 : w4.cell? ⟨b, off, none⟩ = some (.slice (some ⟨bx, offx, none⟩) (ln 0) (cq 0)) := by rw [← hax]; exact HP4.out.at0 rfl hm0
  have HYB : Hid (w4.cell? ⟨b, off, none⟩ = some (.slice (some ⟨bx, offx, none⟩) (ln 0) (cq 0)) ∧ ∀ k, k < ln 0 → w4.cell? ⟨bx, offx + k, none⟩ = some (.int .i64 (F 0 k))) := ⟨y4, hcx⟩
  clear y4 hcx hax
  obtain ⟨N, hN⟩ : ∃ N, N = ln 0 := ⟨_, rfl⟩
  rw [← hN] at HYB hl0
  have HN := hide hN
  clear hN
  have HX4 : Hid ((w4.alloc (.cells #[] 2)).ownsRow w4.heap.size 2 1 (.slice (some ⟨w4.heap.size, 0, none⟩) 0 0) 0 (ints []) ∧ Below w4.heap.size w4 (w4.alloc (.cells #[] 2))) := ⟨World.ownsRow_lit w4 #[] 0 (Nat.le_refl _) (by unfold maxLen; omega) rfl, bnew _ _⟩
  go_wp2_with fail
  generalize Value.slice (some ⟨w4.heap.size, 0, none⟩) 0 0 = v0 at *
  generalize w4.alloc (.cells #[] 2) = w5 at *
  go_loopw [7, 8] (fun v i wr => ∃ (j : Nat) (L : List Int), i = .int .i64 j ∧ j ≤ N ∧ L.length = j ∧ (∀ q, q < j → 0 ≤ L.getD q 0 ∧ L.getD q 0 ≤ 255) ∧ wr.ownsRow w4.heap.size 2 1 v j (ints L) ∧ Below w4.heap.size w4 wr) (fun _ i _ => N - (intOf i).toNat)
  case atStart => exact ⟨0, [], rfl, by omega, rfl, fun q h => by omega, HX4.out.1, HX4.out.2⟩
  case round =>
    obtain ⟨j, L, rfl, hjN, hL, hbd, ho, hb⟩ := hrel
    have HO := hide ho
    have HB := hide hb
    have HL := hide hL
    have HBn := hide hbd
    have HS : Hid (w4.heap.size ≤ wr.heap.size) := hb.size
    have yb := (hb.cell (p := ⟨b, off, none⟩) (World.block_lt_of_cell? _ _ HYB.out.1)).trans HYB.out.1
    clear ho hb hL hbd HX4
    by_cases hlt : j < N
    · have hji : (j : Int) < (N : Int) := by omega
      have HJ1 : Hid (j + 1 ≤ N) := by show _ ≤ _; omega
      have HMe : Hid (N - (j + 1) < N - j) := by show _ < _; omega
      have HjM : Hid (j ≤ 1048576) := by have := hl0.out; show _ ≤ _; omega
      have jw : IntKind.i64.wrap (j : Int) = (j : Int) := by have := hl0.out; rw [IntKind.wrap_i64]; omega
      have hjw : IntKind.i64.wrap ((j : Int) + 1) = (j : Int) + 1 := by have := hl0.out; rw [IntKind.wrap_i64]; omega
      have HJ255 : Hid (j ≤ 255) := by have := hl0.out; show _ ≤ _; omega
      go_upto_if 41 with fail
      go_cut [9] (fun s wc => ∃ z : Int, s = .int .i64 z ∧ (0 ≤ z ∧ z ≤ 255) ∧ wr = wc)
      case first =>
        by_cases hjn : j < n1
        · obtain ⟨c, o, z, rfl, hz0, hz1, hz⟩ : ∃ c o z, c1 = some ⟨c, o, none⟩ ∧ 0 ≤ z ∧ z ≤ 255 ∧ wr.cell? ⟨c, o + j, none⟩ = some (.int .u8 z) := by
            rcases HY4.out.2 with h | ⟨c, o, h1, h2⟩
            · omega
            · obtain ⟨z, z0, z1, hz⟩ := h2 j hjn
              exact ⟨c, o, z, h1, z0, z1, (HB.out.cell (p := ⟨c, o + j, none⟩) (World.block_lt_of_cell? _ _ hz)).trans hz⟩
          have hzw : IntKind.i64.wrap z = z := by rw [IntKind.wrap_i64]; omega
          have hjni : (j : Int) < (n1 : Int) := by omega
          have HZ : Hid (0 ≤ z ∧ z ≤ 255) := ⟨hz0, hz1⟩
          clear hz0 hz1
          go_wp2_with fail
          go_meet
          exact ⟨_, rfl, HZ.out, rfl⟩
        · have hjni : ¬ (j : Int) < (n1 : Int) := by omega
          go_wp2_with fail
          go_meet
          exact ⟨_, rfl, ⟨by omega, by have := HJ255.out; omega⟩, rfl⟩
      case rest =>
        obtain ⟨z, rfl, hz, hw⟩ := hcut
        subst hw
        have HZ := hide hz
        have HBr : Hid (Below w4.heap.size wr wr) := Below.refl _ _
        clear hz
        go_wp2_with (refine growL _ rfl _ _ rfl w4.heap.size u7 j L rfl wr HO.out HBr.out HS.out z rfl HjM.out ?_)
        intro v' w6 ho6 hb6 _
        have HL6 : Hid ((L ++ [z]).length = j + 1) := by have := HL.out; show _ = _; simp; omega
        have HN6 : Hid (∀ q, q < j + 1 → 0 ≤ (L ++ [z]).getD q 0 ∧ (L ++ [z]).getD q 0 ≤ 255) := fun q hq => by
          have hl := HL.out
          by_cases e : q < j
          · have := HBn.out q e
            rw [List.getD_eq_getElem?_getD, List.getElem?_append_left (by omega), ← List.getD_eq_getElem?_getD]; exact this
          · obtain rfl : q = j := by omega
            rw [List.getD_eq_getElem?_getD, List.getElem?_append_right (by omega), hl]
            simpa using HZ.out
        have HO6 := hide ho6
        have HB6 := hide (HB.out.trans hb6)
        clear ho6 hb6 HO HB HS HBr HL HBn HZ yb
        go_wp2_with fail
        go_roundw
        case rel => exact ⟨j + 1, _, by simp, HJ1.out, HL6.out, HN6.out, HO6.out, HB6.out⟩
        case measure => simpa [intOf] using HMe.out
    · obtain rfl : j = N := by omega
      have hji : ¬ (j : Int) < (j : Int) := by omega
      obtain ⟨ax, cx, rfl⟩ := own_isB HO.out
      have HPX : Hid (Px ax j (fun k => L.getD k 0) wr) := own_pxR HO.out
      have HPW := hide (HP4.out.below HB.out)
      have HGW := hide (HG4.out.below HB.out)
      have HBW := hide (bnext HB4.out (Nat.le_refl _) HB.out)
      have HcX : Hid (∀ k, k < j → (wr.alloc (.cells #[] 2)).cell? ⟨bx, offx + k, none⟩ = some (.int .i64 (F 0 k))) := fun k hk => by
        have h1 := HYB.out.2 k hk
        have h2 := (HB.out.cell (p := ⟨bx, offx + k, none⟩) (World.block_lt_of_cell? _ _ h1)).trans h1
        rw [(bnew wr _).cell (p := ⟨bx, offx + k, none⟩) (World.block_lt_of_cell? _ _ h2)]; exact h2
      have ya : (wr.alloc (.cells #[] 2)).cell? ⟨b, off, none⟩ = some (.slice (some ⟨bx, offx, none⟩) j (cq 0)) := by rw [(bnew wr _).cell (p := ⟨b, off, none⟩) (World.block_lt_of_cell? _ _ yb)]; exact yb
      have HX5 : Hid ((wr.alloc (.cells #[] 2)).ownsRow wr.heap.size 2 1 (.slice (some ⟨wr.heap.size, 0, none⟩) 0 0) 0 (ints []) ∧ Below wr.heap.size wr (wr.alloc (.cells #[] 2)) ∧ wr.heap.size ≤ (wr.alloc (.cells #[] 2)).heap.size) := ⟨World.ownsRow_lit wr #[] 0 (Nat.le_refl _) (by unfold maxLen; omega) rfl, bnew _ _, by simp⟩
      clear HP4 HG4 HB4 HYB HO HB HS
      go_wp2_with (refine growPx _ rfl _ _ rfl wr.heap.size _ 0 [] rfl wr HX5.out.1 HX5.out.2.1 HX5.out.2.2 bx offx j (cq 0) (F 0) rfl HcX.out (by have := hl0.out; omega) ?_)
      intro v7 w7 ho7 hb7
      obtain ⟨g7, c7, rfl, hg7, hr7⟩ := own_partsL ho7 (by have := hl0.out; omega)
      have hb8 := bnew w7 (.cells #[.slice (some ⟨g7, 0, none⟩) j c7, .int .i64 0] 30)
      have hg7w : g7 < w7.heap.size := World.block_lt_of_cell? w7 ⟨g7, 0, none⟩ (hr7 0 (by have := hl0.out; omega)).1
      have HR8 : Hid (Part g7 j 0 (fun _ => (-1 : Int)) (w7.alloc (.cells #[.slice (some ⟨g7, 0, none⟩) j c7, .int .i64 0] 30))) := (Row.below (f := fun k => (fl (F 0) j).getD k 0) hr7 hb8 hg7w).part
      have HF8 : Hid (Bx w7.heap.size [.slice (some ⟨g7, 0, none⟩) j c7, .int .i64 0] (w7.alloc (.cells #[.slice (some ⟨g7, 0, none⟩) j c7, .int .i64 0] 30))) := Bx.new [.slice (some ⟨g7, 0, none⟩) j c7, .int .i64 0] _ _
      have HB8 : Hid (Below wr.heap.size wr (w7.alloc (.cells #[.slice (some ⟨g7, 0, none⟩) j c7, .int .i64 0] 30))) := hb7.trans (hb8.mono hb7.size)
      have HGB : Hid (wr.heap.size ≤ g7 ∧ w7.heap.size ≠ g7) := ⟨hg7, by omega⟩
      have HWS : Hid (wr.heap.size ≤ w7.heap.size) := hb7.size
      clear ho7 hb7 hb8 hr7 hg7 hg7w HX5 HcX ya yb
      go_wp2_with fail
      generalize hw8 : w7.alloc (.cells #[.slice (some ⟨g7, 0, none⟩) j c7, .int .i64 0] 30) = w8 at *
      clear hw8
      generalize w7.heap.size = F7 at *
      obtain ⟨wo, rfl⟩ : ∃ wo, wo = wr := ⟨_, rfl⟩
      go_loopw [11] (fun i wq => ∃ q : Nat, i = .int .i64 q ∧ q ≤ j ∧ Part g7 j q (fun _ => (-1 : Int)) wq ∧ Kept g7 w8 wq) (fun i _ => j - (intOf i).toNat)
      case atStart => exact ⟨0, rfl, by omega, HR8.out, Kept.refl _ _⟩
      case round =>
        obtain ⟨q, rfl, hqj, hp, hk⟩ := hrel
        have HPq := hide hp
        have HKq := hide hk
        clear hp hk HR8
        have yf := HKq.out.cell (a := ⟨F7, 0, none⟩) HGB.out.2 (HF8.out 0 _ rfl).1
        by_cases hq : q < j
        · have hqi : (q : Int) < (j : Int) := by omega
          have HJ1 : Hid (q + 1 ≤ j) := by show _ ≤ _; omega
          have HMe : Hid (j - (q + 1) < j - q) := by show _ < _; omega
          have hqw : IntKind.i64.wrap ((q : Int) + 1) = (q : Int) + 1 := by have := hl0.out; rw [IntKind.wrap_i64]; omega
          obtain ⟨⟨y, hy, -⟩, fr⟩ := HPq.out q hq
          have HPS := hide (HPq.out.step hq (-1) rfl)
          have HKS : Hid (Kept g7 w8 (wr.setCell ⟨g7, q, none⟩ (.int .i64 (-1)))) := HKq.out.setCell (a := ⟨g7, q, none⟩) rfl _
          clear HPq HKq
          go_wp2_with fail
          go_roundw
          case rel => exact ⟨q + 1, by simp, HJ1.out, HPS.out, HKS.out⟩
          case measure => simpa [intOf] using HMe.out
        · obtain rfl : q = j := by omega
          have hqi : ¬ (q : Int) < (q : Int) := by omega
          have HPF : Hid (PxB (some ⟨F7, 0, none⟩) 1 (fun _ => some ⟨g7, 0, none⟩) (fun _ => q) (fun _ => c7) (fun _ _ => (-1 : Int)) (fun _ => 0) wr) := by
            refine ⟨.inr ⟨F7, 0, rfl, fun i hi => ?_⟩, fun i hi => HPq.out.row.px⟩
            obtain rfl : i = 0 := by omega
            exact ⟨yf, HKq.out.cell (a := ⟨F7, 1, none⟩) HGB.out.2 (HF8.out 1 _ rfl).1⟩
          have hbw : Below wo.heap.size wo wr := HB8.out.trans (HKq.out.below HGB.out.1 HB8.out.size)
          have HPb := hide (HPW.out.below hbw)
          have HGb := hide (HGW.out.below hbw)
          have HXb := hide (HPX.out.below hbw)
          have HBb := hide (bnext HBW.out (Nat.le_refl _) hbw)
          have c1' := HCI.out _ HPb.out HGb.out
          rw [HR.out] at c1'
          have HFK : Hid (kepB 1 (fun _ => q) (fun _ _ => (-1 : Int)) (fun _ => 0) q (fun k => L.getD k 0) = true) := free_keep (n := q) rfl (by have := hl0.out; omega) (by have := hl0.out; omega) (fun _ _ => rfl) rfl (fun k hk => HBn.out k hk)
          have HqM : Hid (q ≤ 1048576) := by have := hl0.out; show _ ≤ _; omega
          clear hbw HPW HGW HPX HBW HKq HPq
          go_wp2_with fail
          refine c1'.mono ?_
          rintro e wx ⟨rfl, hb⟩
          have HPc := hide (HPb.out.below hb)
          have HXc := hide (HXb.out.below hb)
          have HFc := hide (HPF.out.below hb)
          have HBc := hide (bnext HBb.out (Nat.le_refl _) hb)
          have c2' := HCK.out ax q cx _ HqM.out _ HPc.out HXc.out
          rw [HNK.out] at c2'
          clear c1' hb HPb HGb HXb HBb HPF
          go_wp2_with fail
          refine c2'.mono ?_
          rintro e wy ⟨rfl, hb⟩
          have HXd := hide (HXc.out.below hb)
          have HFd := hide (HFc.out.below hb)
          have HBd := hide (bnext HBc.out (Nat.le_refl _) hb)
          have c3' := implKeeps_any (some ⟨F7, 0, none⟩) 1 1 _ _ _ _ _ (by omega) (fun i hi => HqM.out) ax q cx _ HqM.out _ HFd.out HXd.out
          rw [HFK.out] at c3'
          clear c2' hb HPc HXc HFc HBc
          go_wp2_with fail
          refine c3'.mono ?_
          rintro e wz ⟨rfl, hb⟩
          have HBe := hide (bnext HBd.out (Nat.le_refl _) hb)
          clear c3' hb HXd HFd HBd
          go_wp2_with fail
          go_ret
          exact ⟨rfl, HBe.out⟩

end Go.Proofs.Ytadbniademamhaa

/- What a parting costs: the specification. -/
import Derived.Test.YtgkjndhobijdiaaCcb
import Derived.BigRegion
namespace Go.Proofs.Ytgkjndhobijdiaa
open Go.RowKit

theorem take_step {L : List Int} {i : Nat} (h : i < L.length) : L.take (i + 1) = L.take i ++ [L.getD i 0] := by
  rw [List.take_succ_eq_append_getElem h]
  congr 2
  simp [List.getD, List.getElem?_eq_getElem h]
theorem getD_mem {L : List Int} {i : Nat} (h : i < L.length) : L.getD i 0 ∈ L := by
  have : L.getD i 0 = L[i] := by simp [List.getD, List.getElem?_eq_getElem h]
  rw [this]
  exact List.getElem_mem h
theorem lnkL_bd (f : Nat → Int) (lk : Int) (k : Nat) (z : Int) (hl : 0 ≤ lk ∧ lk ≤ 4095) : ∀ L : List Int, z ≤ lnkL f lk k z L ∧ lnkL f lk k z L ≤ z + 4095 * (L.length : Int) := by
  intro L
  unfold lnkL
  induction L generalizing z with
  | nil => simp
  | cons q L ih =>
    simp only [List.foldl, List.length_cons]
    by_cases h : (k : Int) < q ∧ f q.toNat ≠ f k
    · rw [if_pos h]
      have := ih (z + lk)
      omega
    · rw [if_neg h]
      have := ih z
      omega

set_option maxRecDepth 100000 in
set_option maxHeartbeats 8000000 in
theorem specCutCost_any (W H : Int) (a : Option Addr) (n cap : Nat) (f : Nat → Int) (hl : n ≤ 1048576) (W1 H1 : Int) (a1 : Option Addr) (n1 cap1 : Nat) (g : Nat → Int) (hl1 : n1 ≤ 1048576) (W2 H2 : Int) (a2 : Option Addr) (n2 cap2 : Nat) (h : Nat → Int) (hl2 : n2 ≤ 1048576) (lk : Int) (w : World) (p0 : Px a n f w) (p1 : Px a1 n1 g w) (p2 : Px a2 n2 h w) :
    Calls Try.prog 27 #[im W H a n cap, im W1 H1 a1 n1 cap1, im W2 H2 a2 n2 cap2, .int .i64 lk] w fun e w' => e = .returned (.int .i64 (cstV W H n f W1 H1 n1 g W2 H2 n2 h lk)) ∧ Below w.heap.size w w' := by
  have HS0 := hide ((((St.start w).box [.int .i64 W, .int .i64 H, .slice a n cap] 30).box' [.int .i64 W1, .int .i64 H1, .slice a1 n1 cap1] 30 (b := w.heap.size + 1) (by simp)).box' [.int .i64 W2, .int .i64 H2, .slice a2 n2 cap2] 30 (b := w.heap.size + 1 + 1) (by simp))
  have c0 := fun w' q => l7Mask_any W H a n cap f hl w' q
  have c1 := fun w' q1 q2 => l9CutOk_any W1 H1 a1 n1 cap1 g hl1 W2 H2 a2 n2 cap2 h hl2 lk w' q1 q2
  have HP0 := hide p0
  have HP1 := hide p1
  have HP2 := hide p2
  unfold cstV
  clear p0 p1 p2
  cases hq : cosB W H n f W1 H1 n1 g W2 H2 n2 h lk
  · rw [if_neg (by simp)]
    have HR : Hid (maskB W H n f = false ∨ (maskB W H n f = true ∧ cutB W1 H1 n1 g W2 H2 n2 h lk = false) ∨ (maskB W H n f = true ∧ cutB W1 H1 n1 g W2 H2 n2 h lk = true ∧ ¬ W = W1) ∨ (maskB W H n f = true ∧ cutB W1 H1 n1 g W2 H2 n2 h lk = true ∧ W = W1 ∧ ¬ H = H1)) := by
      show _ ∨ _
      unfold cosB at hq
      cases h1 : maskB W H n f
      · exact .inl rfl
      · cases h2 : cutB W1 H1 n1 g W2 H2 n2 h lk
        · exact .inr (.inl ⟨rfl, rfl⟩)
        · rw [h1, h2] at hq
          by_cases e1 : W = W1
          · by_cases e2 : H = H1
            · simp [e1, e2] at hq
            · exact .inr (.inr (.inr ⟨rfl, rfl, e1, e2⟩))
          · exact .inr (.inr (.inl ⟨rfl, rfl, e1⟩))
    clear hq
    generalize maskB W H n f = Q0 at *
    generalize cutB W1 H1 n1 g W2 H2 n2 h lk = Q1 at *
    rcases HR.out with rfl | ⟨rfl, rfl⟩ | ⟨rfl, rfl, e1⟩ | ⟨rfl, rfl, rfl, e1⟩
    · go_enter Try.func27, Try.ntmps27
      go_wp2_with fail
      refine (c0 _ (HP0.out.below HS0.out.below)).mono ?_
      rintro e w1 ⟨rfl, hb⟩
      have HS1 := hide (HS0.out.next hb)
      clear hb
      go_wp2_with fail
      go_ret
      exact ⟨rfl, HS1.out.below⟩
    · go_enter Try.func27, Try.ntmps27
      go_wp2_with fail
      refine (c0 _ (HP0.out.below HS0.out.below)).mono ?_
      rintro e w1 ⟨rfl, hb⟩
      have HS1 := hide (HS0.out.next hb)
      obtain ⟨i0, i1, i2⟩ := HS1.out.im3 0 rfl
      obtain ⟨j0, j1, j2⟩ := HS1.out.im3 1 rfl
      clear hb
      go_wp2_with fail
      refine (c1 _ (HP1.out.below HS1.out.below) (HP2.out.below HS1.out.below)).mono ?_
      rintro e w2 ⟨rfl, hb⟩
      have HS2 := hide (HS1.out.next hb)
      clear hb
      go_wp2_with fail
      go_ret
      exact ⟨rfl, HS2.out.below⟩
    · have t : (W != W1) = true := by simp [e1]
      go_enter Try.func27, Try.ntmps27
      go_wp2_with fail
      refine (c0 _ (HP0.out.below HS0.out.below)).mono ?_
      rintro e w1 ⟨rfl, hb⟩
      have HS1 := hide (HS0.out.next hb)
      obtain ⟨i0, i1, i2⟩ := HS1.out.im3 0 rfl
      obtain ⟨j0, j1, j2⟩ := HS1.out.im3 1 rfl
      clear hb
      go_wp2_with fail
      refine (c1 _ (HP1.out.below HS1.out.below) (HP2.out.below HS1.out.below)).mono ?_
      rintro e w2 ⟨rfl, hb⟩
      have HS2 := hide (HS1.out.next hb)
      clear hb i0 i1 i2 j0 j1 j2
      obtain ⟨i0, i1, i2⟩ := HS2.out.im3 1 rfl
      obtain ⟨j0, j1, j2⟩ := HS2.out.im3 2 rfl
      go_wp2_with fail
      go_ret
      exact ⟨rfl, HS2.out.below⟩
    · have t : (H != H1) = true := by simp [e1]
      go_enter Try.func27, Try.ntmps27
      go_wp2_with fail
      refine (c0 _ (HP0.out.below HS0.out.below)).mono ?_
      rintro e w1 ⟨rfl, hb⟩
      have HS1 := hide (HS0.out.next hb)
      obtain ⟨i0, i1, i2⟩ := HS1.out.im3 0 rfl
      obtain ⟨j0, j1, j2⟩ := HS1.out.im3 1 rfl
      clear hb
      go_wp2_with fail
      refine (c1 _ (HP1.out.below HS1.out.below) (HP2.out.below HS1.out.below)).mono ?_
      rintro e w2 ⟨rfl, hb⟩
      have HS2 := hide (HS1.out.next hb)
      clear hb i0 i1 i2 j0 j1 j2
      obtain ⟨i0, i1, i2⟩ := HS2.out.im3 1 rfl
      obtain ⟨j0, j1, j2⟩ := HS2.out.im3 2 rfl
      go_wp2_with fail
      go_ret
      exact ⟨rfl, HS2.out.below⟩
  rw [if_pos rfl]
  unfold cosB at hq
  simp only [Bool.and_eq_true, decide_eq_true_eq] at hq
  obtain ⟨hm, hc, rfl, rfl⟩ := hq
  obtain ⟨g1, g2, rfl, rfl, hnn, hlk⟩ := cutB_parts hc
  obtain ⟨mo, mn, mb⟩ := maskB_parts hm
  obtain ⟨hW, hH, hn, hn1, hn2⟩ := okB_side mo
  obtain ⟨_, _, gb⟩ := gryB_parts g1
  obtain ⟨go', _, hb'⟩ := gryB_parts g2
  obtain ⟨_, _, hn', _, _⟩ := okB_side go'
  obtain rfl : n = n2 := by omega
  obtain rfl : n1 = n := by omega
  rw [hm] at c0
  rw [hc] at c1
  have HG := hide gb
  have HHh := hide hb'
  have HM := hide mb
  have HNn := hide hn
  clear hm hc g1 g2 mo mn mb gb go' hb' hn' hnn hn
  go_enter Try.func27, Try.ntmps27
  go_wp2_with fail
  refine (c0 _ (HP0.out.below HS0.out.below)).mono ?_
  rintro e w1 ⟨rfl, hb⟩
  have HS1 := hide (HS0.out.next hb)
  obtain ⟨i0, i1, i2⟩ := HS1.out.im3 0 rfl
  obtain ⟨j0, j1, j2⟩ := HS1.out.im3 1 rfl
  clear hb c0 HS0
  go_wp2_with fail
  refine (c1 _ (HP1.out.below HS1.out.below) (HP2.out.below HS1.out.below)).mono ?_
  rintro e w2 ⟨rfl, hb⟩
  have HS2 := hide (HS1.out.next hb)
  clear hb i0 i1 i2 j0 j1 j2 c1 HS1
  obtain ⟨i0, i1, i2⟩ := HS2.out.im3 1 rfl
  obtain ⟨j0, j1, j2⟩ := HS2.out.im3 2 rfl
  go_wp2_with fail
  clear i0 i1 i2 j0 j1 j2
  go_loopw [9, 10] (fun s i wr => ∃ k : Nat, k ≤ n1 ∧ i = .int .i64 k ∧ s = .int .i64 (cstU W H f g h lk k) ∧ St w [(w.heap.size + 1 + 1, [.int .i64 W, .int .i64 H, .slice a2 n1 cap2]), (w.heap.size + 1, [.int .i64 W, .int .i64 H, .slice a1 n1 cap1]), (w.heap.size, [.int .i64 W, .int .i64 H, .slice a n1 cap])] [] wr) (fun _ i _ => n1 - (intOf i).toNat)
  case atStart => exact ⟨0, by omega, rfl, rfl, HS2.out⟩
  case round =>
    obtain ⟨k, hk, rfl, rfl, hs⟩ := hrel
    have HS := hide hs
    clear hs HS2
    by_cases hlt : k < n1
    · have hfk := HM.out k hlt
      have hgk := HG.out k hlt
      have hhk := HHh.out k hlt
      have hcu := cstU_bd W H f g h lk n1 HG.out HHh.out hlk k hk
      obtain ⟨b0, o0, rfl, hy0⟩ := (HP0.out.below HS.out.below).at hlt
      obtain ⟨b1, o1, rfl, hy1⟩ := (HP1.out.below HS.out.below).at hlt
      obtain ⟨b2, o2, rfl, hy2⟩ := (HP2.out.below HS.out.below).at hlt
      have HC : Hid (cstU W H f g h lk (k + 1) = lnkL f lk k (cstU W H f g h lk k + ownC f g h k) (besL W H k)) := (lnk_bes f lk k _ HNn.out hW.1 hlt).symm
      have HI := hide (besL_in (H := H) HNn.out hW.1 hlt)
      have hLen := besL_len W H k
      have cB := fun w' => l8Beside_any W H k hW.1 hW.2 hH.1 hH.2 (by omega) w'
      obtain ⟨Z, hZ⟩ : ∃ Z, Z = cstU W H f g h lk k + ownC f g h k := ⟨_, rfl⟩
      rw [← hZ] at HC
      have bO : 0 ≤ ownC f g h k ∧ ownC f g h k ≤ 4095 := by unfold ownC; split <;> omega
      have bZ : 0 ≤ Z ∧ Z ≤ 60000000 := by omega
      have HZb := hide bZ
      have m0 := HS.out.cell 2 rfl 0 rfl
      have m1 := HS.out.cell 2 rfl 1 rfl
      have m2 := HS.out.cell 2 rfl 2 rfl
      have s2 := HS.out.cell 1 rfl 2 rfl
      have k2 := HS.out.cell 0 rfl 2 rfl
      generalize besL W H k = L at *
      by_cases e0 : f k = 0
      · have wZ : IntKind.i64.wrap (cstU W H f g h lk k + g k) = Z := by
          have : ownC f g h k = g k := by unfold ownC; rw [if_pos e0]
          rw [hZ, this, IntKind.wrap_i64]; omega
        have hyk := hy0
        rw [e0] at hyk
        clear hZ bO bZ hcu hgk hhk hfk hy2 k2 hy0
        generalize cstU W H f g h lk k = E at *
        generalize g k = y1 at *
        go_wp2_with fail
        refine (cB _).mono ?_
        rintro e w3 ⟨v3, rfl, ho, hb⟩
        have HS3 := hide (HS.out.next hb)
        have HO := hide ho
        clear ho hb cB m0 m1 m2 s2 hyk hy1 wZ HS
        obtain ⟨m, hm⟩ : ∃ m, m = L.length := ⟨_, rfl⟩
        rw [← hm] at HO hLen
        have HMm := hide hm
        clear hm
        by_cases hL0 : m = 0
        · have hLn : L = [] := List.length_eq_zero_iff.1 (by have := HMm.out; omega)
          have HCz : Hid (cstU W H f g h lk (k + 1) = Z) := by show _ = _; rw [HC.out, hLn]; rfl
          rw [hL0] at HO
          obtain ⟨a3, cap3, rfl⟩ : ∃ a3 cap3, v3 = .slice a3 0 cap3 := by
            obtain ⟨_, hv | ⟨b', cap', _, hv, _⟩⟩ := HO.out
            · exact ⟨_, _, hv.1⟩
            · exact ⟨_, _, hv⟩
          clear HO HC HI HMm hLn hL0 hLen
          go_wp2_with fail
          go_loopw [9, 12] (fun s i wr => i = .int .i64 0 ∧ s = .int .i64 Z ∧ wr = w3) (fun _ _ _ => 0)
          case atStart => exact ⟨rfl, rfl, rfl⟩
          case round =>
            obtain ⟨rfl, rfl, rfl⟩ := hrel
            go_wp2_with fail
            exact ⟨⟨k + 1, by omega, rfl, by rw [HCz.out], HS3.out⟩, by simp [intOf]; omega⟩
        obtain ⟨b3, cap3, rfl, hB3, hc3⟩ := own_partsL HO.out (by omega)
        have HC3 := hide hc3
        clear hc3
        go_wp2_with fail
        go_loopw [9, 12] (fun s i wr => ∃ j d : Nat, j ≤ m ∧ i = .int .i64 j ∧ s = .int .i64 (lnkL f lk k Z (L.take j)) ∧ wr = w3.drewN d) (fun _ i _ => m - (intOf i).toNat)
        case atStart => exact ⟨0, 0, by omega, rfl, rfl, rfl⟩
        case round =>
          obtain ⟨j, d, hj, rfl, rfl, rfl⟩ := hrel
          by_cases hjl : j < m
          · have hjl' : j < L.length := by have := HMm.out; omega
            obtain ⟨x0, x1⟩ := HI.out _ (getD_mem hjl')
            have hc := (HC3.out j hjl).1
            have bl := lnkL_bd f lk k Z hlk (L.take j)
            have blen : (L.take j).length ≤ 4 := by rw [List.length_take]; omega
            have bz := HZb.out
            have HN : Hid (lnkL f lk k Z (L.take (j + 1)) = if (k : Int) < L.getD j 0 ∧ f (L.getD j 0).toNat ≠ f k then lnkL f lk k Z (L.take j) + lk else lnkL f lk k Z (L.take j)) := by rw [take_step hjl']; exact lnkL_snoc f lk k Z _ _
            obtain ⟨b9, o9, heq, hyq⟩ := (HP0.out.below HS3.out.below).at (k := (L.getD j 0).toNat) (by omega)
            cases heq
            obtain ⟨b8, o8, heq, hyk⟩ := (HP0.out.below HS3.out.below).at hlt
            cases heq
            have m2 := HS3.out.cell 2 rfl 2 rfl
            generalize hgq : L.getD j 0 = q at *
            generalize lnkL f lk k Z (L.take j) = E2 at *
            clear hgq
            have bE : 0 ≤ E2 ∧ E2 ≤ 70000000 := by omega
            clear bl blen bz hjl' HC HI HO HS3 HC3 HG HHh HM HP0 HP1 HP2 HNn HZb
            by_cases hkq : (k : Int) < q
            case neg =>
              rw [if_neg (fun e => hkq e.1)] at HN
              have hkq' : q ≤ k := by omega
              have dq : decide ((k : Int) < q) = false := by simp [hkq]
              clear hyq hyk m2
              go_wp2_with fail
              go_quiet (fail)
              go_wp2_with fail
              exact ⟨⟨j + 1, _, by omega, rfl, by rw [HN.out], rfl⟩, by simp [intOf]; omega⟩
            obtain ⟨t, ht⟩ : ∃ t, q.toNat = t := ⟨_, rfl⟩
            rw [ht] at HN hyq
            by_cases hfq : f t = f k
            · rw [if_neg (fun e => e.2 hfq)] at HN
              rw [hfq] at hyq
              clear hfq
              generalize f k = y at *
              have tn : (y != y) = false := by simp
              go_wp2_with fail
              go_quiet (fail)
              go_wp2_with fail
              exact ⟨⟨j + 1, _, by omega, rfl, by rw [HN.out], rfl⟩, by simp [intOf]; omega⟩
            · rw [if_pos ⟨hkq, hfq⟩] at HN
              generalize f k = y at *
              generalize f t = z at *
              have tn : (z != y) = true := by simp [hfq]
              have we : IntKind.i64.wrap (E2 + lk) = E2 + lk := by rw [IntKind.wrap_i64]; omega
              go_wp2_with fail
              go_quiet (fail)
              go_wp2_with fail
              exact ⟨⟨j + 1, _, by omega, rfl, by rw [HN.out], rfl⟩, by simp [intOf]; omega⟩
          · obtain rfl : j = m := by omega
            have HE : Hid (lnkL f lk k Z (L.take j) = cstU W H f g h lk (k + 1)) := by show _ = _; rw [HC.out, HMm.out, List.take_length]
            have HS4 := hide (HS3.out.next (below_drewN (Below.refl _ _) d))
            clear HC HI HO HS3 HC3 HG HHh HM HP0 HP1 HP2 HNn HZb HMm
            generalize lnkL f lk k Z (L.take j) = E2 at *
            go_wp2_with fail
            exact ⟨⟨k + 1, by omega, rfl, by rw [HE.out], HS4.out⟩, by simp [intOf]; omega⟩
      · have wZ : IntKind.i64.wrap (cstU W H f g h lk k + h k) = Z := by
          have : ownC f g h k = h k := by unfold ownC; rw [if_neg e0]
          rw [hZ, this, IntKind.wrap_i64]; omega
        have hyk := hy0
        rw [hfk.resolve_left e0] at hyk
        clear hZ bO bZ hcu hgk hhk hfk hy1 s2 hy0
        generalize cstU W H f g h lk k = E at *
        generalize h k = y1 at *
        go_wp2_with fail
        refine (cB _).mono ?_
        rintro e w3 ⟨v3, rfl, ho, hb⟩
        have HS3 := hide (HS.out.next hb)
        have HO := hide ho
        clear ho hb cB m0 m1 m2 k2 hyk hy2 wZ HS
        obtain ⟨m, hm⟩ : ∃ m, m = L.length := ⟨_, rfl⟩
        rw [← hm] at HO hLen
        have HMm := hide hm
        clear hm
        by_cases hL0 : m = 0
        · have hLn : L = [] := List.length_eq_zero_iff.1 (by have := HMm.out; omega)
          have HCz : Hid (cstU W H f g h lk (k + 1) = Z) := by show _ = _; rw [HC.out, hLn]; rfl
          rw [hL0] at HO
          obtain ⟨a3, cap3, rfl⟩ : ∃ a3 cap3, v3 = .slice a3 0 cap3 := by
            obtain ⟨_, hv | ⟨b', cap', _, hv, _⟩⟩ := HO.out
            · exact ⟨_, _, hv.1⟩
            · exact ⟨_, _, hv⟩
          clear HO HC HI HMm hLn hL0 hLen
          go_wp2_with fail
          go_loopw [9, 12] (fun s i wr => i = .int .i64 0 ∧ s = .int .i64 Z ∧ wr = w3) (fun _ _ _ => 0)
          case atStart => exact ⟨rfl, rfl, rfl⟩
          case round =>
            obtain ⟨rfl, rfl, rfl⟩ := hrel
            go_wp2_with fail
            exact ⟨⟨k + 1, by omega, rfl, by rw [HCz.out], HS3.out⟩, by simp [intOf]; omega⟩
        obtain ⟨b3, cap3, rfl, hB3, hc3⟩ := own_partsL HO.out (by omega)
        have HC3 := hide hc3
        clear hc3
        go_wp2_with fail
        go_loopw [9, 12] (fun s i wr => ∃ j d : Nat, j ≤ m ∧ i = .int .i64 j ∧ s = .int .i64 (lnkL f lk k Z (L.take j)) ∧ wr = w3.drewN d) (fun _ i _ => m - (intOf i).toNat)
        case atStart => exact ⟨0, 0, by omega, rfl, rfl, rfl⟩
        case round =>
          obtain ⟨j, d, hj, rfl, rfl, rfl⟩ := hrel
          by_cases hjl : j < m
          · have hjl' : j < L.length := by have := HMm.out; omega
            obtain ⟨x0, x1⟩ := HI.out _ (getD_mem hjl')
            have hc := (HC3.out j hjl).1
            have bl := lnkL_bd f lk k Z hlk (L.take j)
            have blen : (L.take j).length ≤ 4 := by rw [List.length_take]; omega
            have bz := HZb.out
            have HN : Hid (lnkL f lk k Z (L.take (j + 1)) = if (k : Int) < L.getD j 0 ∧ f (L.getD j 0).toNat ≠ f k then lnkL f lk k Z (L.take j) + lk else lnkL f lk k Z (L.take j)) := by rw [take_step hjl']; exact lnkL_snoc f lk k Z _ _
            obtain ⟨b9, o9, heq, hyq⟩ := (HP0.out.below HS3.out.below).at (k := (L.getD j 0).toNat) (by omega)
            cases heq
            obtain ⟨b8, o8, heq, hyk⟩ := (HP0.out.below HS3.out.below).at hlt
            cases heq
            have m2 := HS3.out.cell 2 rfl 2 rfl
            generalize hgq : L.getD j 0 = q at *
            generalize lnkL f lk k Z (L.take j) = E2 at *
            clear hgq
            have bE : 0 ≤ E2 ∧ E2 ≤ 70000000 := by omega
            clear bl blen bz hjl' HC HI HO HS3 HC3 HG HHh HM HP0 HP1 HP2 HNn HZb
            by_cases hkq : (k : Int) < q
            case neg =>
              rw [if_neg (fun e => hkq e.1)] at HN
              have hkq' : q ≤ k := by omega
              have dq : decide ((k : Int) < q) = false := by simp [hkq]
              clear hyq hyk m2
              go_wp2_with fail
              go_quiet (fail)
              go_wp2_with fail
              exact ⟨⟨j + 1, _, by omega, rfl, by rw [HN.out], rfl⟩, by simp [intOf]; omega⟩
            obtain ⟨t, ht⟩ : ∃ t, q.toNat = t := ⟨_, rfl⟩
            rw [ht] at HN hyq
            by_cases hfq : f t = f k
            · rw [if_neg (fun e => e.2 hfq)] at HN
              rw [hfq] at hyq
              clear hfq
              generalize f k = y at *
              have tn : (y != y) = false := by simp
              go_wp2_with fail
              go_quiet (fail)
              go_wp2_with fail
              exact ⟨⟨j + 1, _, by omega, rfl, by rw [HN.out], rfl⟩, by simp [intOf]; omega⟩
            · rw [if_pos ⟨hkq, hfq⟩] at HN
              generalize f k = y at *
              generalize f t = z at *
              have tn : (z != y) = true := by simp [hfq]
              have we : IntKind.i64.wrap (E2 + lk) = E2 + lk := by rw [IntKind.wrap_i64]; omega
              go_wp2_with fail
              go_quiet (fail)
              go_wp2_with fail
              exact ⟨⟨j + 1, _, by omega, rfl, by rw [HN.out], rfl⟩, by simp [intOf]; omega⟩
          · obtain rfl : j = m := by omega
            have HE : Hid (lnkL f lk k Z (L.take j) = cstU W H f g h lk (k + 1)) := by show _ = _; rw [HC.out, HMm.out, List.take_length]
            have HS4 := hide (HS3.out.next (below_drewN (Below.refl _ _) d))
            clear HC HI HO HS3 HC3 HG HHh HM HP0 HP1 HP2 HNn HZb HMm
            generalize lnkL f lk k Z (L.take j) = E2 at *
            go_wp2_with fail
            exact ⟨⟨k + 1, by omega, rfl, by rw [HE.out], HS4.out⟩, by simp [intOf]; omega⟩
    · obtain rfl : k = n1 := by omega
      have HB := hide HS.out.below
      have m2 := HS.out.cell 2 rfl 2 rfl
      clear HS
      go_wp2_with fail
      go_ret
      exact ⟨rfl, HB.out⟩

end Go.Proofs.Ytgkjndhobijdiaa

/- Surfaces: the specification. -/
import Derived.Test.YtkkmoidbnbpfkaaSat
namespace Go.Proofs.Ytkkmoidbnbpfkaa
open Go.RowKit

theorem volB_parts {X Y Z : Int} {n : Nat} {f : Nat → Int} (h : volB X Y Z n f = true) : (1 ≤ X ∧ X ≤ 32) ∧ (1 ≤ Y ∧ Y ≤ 32) ∧ (1 ≤ Z ∧ Z ≤ 32) ∧ (n : Int) = X * Y * Z ∧ n ≤ 32768 := by
  unfold volB inB at h
  simp only [Bool.and_eq_true, decide_eq_true_eq] at h
  obtain ⟨hX, hY, hZ, hn, _⟩ := h
  refine ⟨hX, hY, hZ, hn, ?_⟩
  have h1 : X * Y ≤ 32 * 32 := Int.mul_le_mul hX.2 hY.2 (by omega) (by omega)
  have h0 : 0 ≤ X * Y := Int.mul_nonneg (by omega) (by omega)
  have h2 : X * Y * Z ≤ 1024 * 32 := Int.mul_le_mul h1 hZ.2 (by omega) (by omega)
  omega
theorem own_len {w : World} {B : Nat} {t : TypeId} {v : Value} {n : Nat} {L : List Int} (h : w.ownsRow B t 5 v n (ints L)) : L.length = n * 5 := by
  have := h.1
  rwa [ints_length] at this
theorem own_slice {w : World} {B : Nat} {t : TypeId} {v : Value} {n : Nat} {L : List Int} (h : w.ownsRow B t 5 v n (ints L)) : ∃ a cap, v = .slice a n cap := by
  obtain ⟨_, hv | ⟨b', cap', _, hv, _⟩⟩ := h
  · exact ⟨_, _, by rw [hv.1, hv.2]⟩
  · exact ⟨_, _, hv⟩
/-- an own list of faces -/
theorem ow_faces {w : World} {B n : Nat} {v : Value} {L : List Int} (h : w.ownsRow B 39 5 v n (ints L)) : ∃ a cap b, v = .slice a n cap ∧ Ow a b (n * 5) (fun q => L.getD q 0) w ∧ (n * 5 = 0 ∨ B ≤ b) := by
  by_cases h0 : n = 0
  · obtain ⟨hlen, hv | ⟨b, cap, cur, hv, hg, hcur, _, hm, _, _⟩⟩ := h
    · obtain ⟨rfl, rfl⟩ := hv
      exact ⟨none, 0, B, rfl, .inl (by omega), .inl (by omega)⟩
    · exact ⟨_, _, b, hv, .inl (by omega), .inl (by omega)⟩
  · obtain ⟨a, cap, b, hv, ho, hB, _⟩ := ow_of_some h (by omega)
    refine ⟨a, cap, b, hv, ?_, .inr hB⟩
    rcases ho with ho | ⟨rfl, ho⟩
    · exact .inl ho
    · exact .inr ⟨rfl, ho⟩
theorem fcL_in {v : Int} {c : List Int} (h : v ≤ 0) : fcL v c = c := if_pos h
theorem fcL_out {v : Int} {c : List Int} (h : ¬ v ≤ 0) : fcL v c = [] := if_neg h

set_option maxRecDepth 100000 in
set_option maxHeartbeats 8000000 in
theorem specSurface_any (X Y Z : Int) (a : Option Addr) (n cap : Nat) (f : Nat → Int) (hl : n ≤ 1048576) (w : World) (h : Px a n f w) :
    Calls Try.prog 5 #[vVolume X Y Z a n cap] w (FcR (srfN X Y Z n f) (srfF X Y Z n f) w) := by
  obtain ⟨wv, hwv⟩ : ∃ wv, w.alloc (.cells #[.int .i64 X, .int .i64 Y, .int .i64 Z, .slice a n cap] 28) = wv := ⟨_, rfl⟩
  have hS : St w [(w.heap.size, [.int .i64 X, .int .i64 Y, .int .i64 Z, .slice a n cap])] [] wv := by rw [← hwv]; exact (St.start w).box [.int .i64 X, .int .i64 Y, .int .i64 Z, .slice a n cap] 28
  have hz : wv.heap.size = w.heap.size + 1 := by rw [← hwv]; simp
  obtain ⟨wa, hwa⟩ : ∃ wa, wv.alloc (.cells #[] 39) = wa := ⟨_, rfl⟩
  have HO0 : Hid (wa.ownsRow wv.heap.size 39 5 (.slice (some ⟨w.heap.size + 1, 0, none⟩) 0 0) 0 (ints [])) := by
    show wa.ownsRow _ _ _ _ _ _
    rw [← hwa, ← hz]
    exact World.ownsRow_lit wv #[] 0 (Nat.le_refl _) (by unfold maxLen; omega) rfl
  have HB0 : Hid (Below wv.heap.size wv wa) := by rw [← hwa]; exact bnew _ _
  have HSv := hide hS
  have HWV := hide hwv
  have HWA := hide hwa
  have HZ : Hid (w.heap.size < wv.heap.size) := by show _ < _; omega
  have HP : Hid (Px a n f wv) := h.below hS.below
  have c := fun w' q => specVolumeOk_any X Y Z a n cap f hl w' q
  clear h hwv hwa hS hz
  have HBx : Hid (∀ wr, Below wv.heap.size wv wr → wr.cell? ⟨w.heap.size, 0, none⟩ = some (.int .i64 X) ∧ wr.cell? ⟨w.heap.size, 1, none⟩ = some (.int .i64 Y) ∧ wr.cell? ⟨w.heap.size, 2, none⟩ = some (.int .i64 Z) ∧ wr.cell? ⟨w.heap.size, 3, none⟩ = some (.slice a n cap)) := by
    intro wr hb
    have q := (HSv.out.bx (w.heap.size, [.int .i64 X, .int .i64 Y, .int .i64 Z, .slice a n cap]) (by simp)).below hb HZ.out
    exact ⟨(q 0 _ rfl).1, (q 1 _ rfl).1, (q 2 _ rfl).1, (q 3 _ rfl).1⟩
  unfold srfN
  cases hq : volB X Y Z n f
  · rw [hq] at c
    rw [if_neg (by simp)]
    clear hq
    obtain ⟨v0, v1, v2, v3⟩ := HBx.out _ HB0.out
    have HF : Hid (Below w.heap.size w wa) := bnext HSv.out.below (Nat.le_refl _) HB0.out
    go_enter Try.func5, Try.ntmps5
    go_upto_region 2 with fail
    rw [HWV.out, HWA.out]
    go_wp2_with fail
    refine (c _ (HP.out.below HB0.out)).mono ?_
    rintro e w1 ⟨rfl, hb⟩
    have HB1 := hide (bnext HF.out (Nat.le_refl _) hb)
    clear hb v0 v1 v2 v3
    go_wp2_with fail
    go_ret
    exact ⟨_, _, 0, rfl, .inl rfl, .inl rfl, HB1.out⟩
  rw [hq] at c
  rw [if_pos rfl]
  obtain ⟨hX, hY, hZ, hn, hn2⟩ := volB_parts hq
  have HNn := hide hn
  clear hq hn
  obtain ⟨v0, v1, v2, v3⟩ := HBx.out _ HB0.out
  go_enter Try.func5, Try.ntmps5
  go_upto_region 2 with fail
  rw [HWV.out, HWA.out]
  generalize (Value.slice (some ⟨w.heap.size + 1, 0, none⟩) 0 0) = vE at HO0 ⊢
  go_wp2_with fail
  refine (c _ (HP.out.below HB0.out)).mono ?_
  rintro e w1 ⟨rfl, hb⟩
  have HB1 := hide (bnext HB0.out (Nat.le_refl _) hb)
  have HO1 := hide (ownsRow_below' HO0.out hb)
  clear hb v0 v1 v2 v3 c HO0 HB0 HWV HWA
  go_wp2_with fail
  go_loopw [3, 4] (fun s i wr => ∃ (k m : Nat) (v : Value), k ≤ n ∧ i = .int .i64 k ∧ v = s ∧ wr.ownsRow wv.heap.size 39 5 v m (ints (srf X Y Z f k)) ∧ Below wv.heap.size wv wr) (fun _ i _ => n - (intOf i).toNat)
  case atStart => exact ⟨0, 0, _, by omega, rfl, rfl, HO1.out, HB1.out⟩
  case round =>
    obtain ⟨k, m, vv0, hk, rfl, rfl, ho, hb⟩ := hrel
    clear HO1 HB1
    have HO := hide ho
    have HB := hide hb
    clear ho hb
    by_cases hlt : k < n
    · obtain ⟨v0, v1, v2, v3⟩ := HBx.out _ HB.out
      obtain ⟨b, off, rfl, hy⟩ := (HP.out.below HB.out).at hlt
      obtain ⟨hx, hyy, hzz⟩ := spot3 hX hY HNn.out hlt
      have e1 : (k : Int).tmod X = k % X := Int.tmod_eq_emod_of_nonneg (by omega)
      have e2 : (k : Int).tdiv X = k / X := Int.tdiv_eq_ediv_of_nonneg (by omega)
      have hq0 : 0 ≤ (k : Int) / X := Int.ediv_nonneg (by omega) (by omega)
      have hq1 : (k : Int) / X ≤ k := Int.ediv_le_self X (by omega)
      have e3 : ((k : Int) / X).tmod Y = k / X % Y := Int.tmod_eq_emod_of_nonneg hq0
      have e4 : ((k : Int) / X).tdiv Y = k / X / Y := Int.tdiv_eq_ediv_of_nonneg hq0
      have w2 : IntKind.i64.wrap ((k : Int) / X) = k / X := by rw [IntKind.wrap_i64]; omega
      have w4 : IntKind.i64.wrap ((k : Int) / X / Y) = k / X / Y := by rw [IntKind.wrap_i64]; omega
      have hX0 : X ≠ 0 := by omega
      have hY0 : Y ≠ 0 := by omega
      have hlen := srf_len X Y Z f k
      have HK : Hid (srf X Y Z f (k + 1) = if 0 < f k then srf X Y Z f k ++ sfP X Y Z f (k % X) (k / X % Y) (k / X / Y) 6 else srf X Y Z f k) := rfl
      generalize hgx : (k : Int) % X = x at *
      generalize hgq : (k : Int) / X = q at *
      generalize hgy : q % Y = y at *
      generalize hgz : q / Y = z at *
      clear hgx hgq hgy hgz
      generalize srf X Y Z f k = L at *
      have HOq : Hid (∀ d, (wr.drewN d).ownsRow wv.heap.size 39 5 vv0 m (ints L)) := fun d => ownsRow_below' HO.out (below_drewN (Below.refl _ _) d)
      have HBq : Hid (∀ d, Below wv.heap.size wv (wr.drewN d)) := fun d => below_drewN HB.out d
      by_cases hpos : 0 < f k
      case neg =>
        rw [if_neg hpos] at HK
        have hle : f k ≤ 0 := by omega
        generalize f k = vk at *
        go_upto_region 8 with fail
        go_quiet (fail)
        go_upto_region 9 with fail
        go_quiet (fail)
        clear v0 v1 v2
        go_wp2_with fail
        exact ⟨⟨k + 1, m, vv0, by omega, rfl, rfl, by rw [HK.out]; exact HOq.out _, HBq.out _⟩, by simp [intOf]; omega⟩
      rw [if_pos hpos] at HK
      have hle : ¬ f k ≤ 0 := by omega
      generalize f k = vk at *
      go_upto_region 8 with fail
      go_quiet (fail)
      go_upto_region 9 with fail
      go_quiet (fail)
      clear v0 v1 v2 e1 e2 e3 e4 w2 w4 hq0 hq1
      go_upto_region 11 with fail
      clear hy v3
      have hlen2 : L.length ≤ 983040 := by omega
      have HL0 : Hid (L = L ++ sfP X Y Z f x y z 0) := by show _ = _ ++ _; simp [sfP]
      rw [HL0.out] at HOq
      clear HO HL0
      have hv4 := HBx.out _ HB.out
      obtain ⟨v0, v1, v2, v3⟩ := hv4
      have cV := l7At_any X Y Z (some ⟨b, off, none⟩) n cap f hX hY hZ HNn.out (x - 1) y z
      have HQ : Hid (sfP X Y Z f x y z 1 = sfP X Y Z f x y z 0 ++ fcL (vAt X Y Z f (x - 1) y z) [x, y, z, 1, -1]) := rfl
      generalize vAt X Y Z f (x - 1) y z = V at *
      have hlp := sfP_len X Y Z f x y z 0
      go_wp2_with fail
      refine (cV _ (HP.out.below (HBq.out _))).mono ?_
      rintro e x0 ⟨rfl, hb⟩
      have HBc := hide (bnext (HBq.out _) (Nat.le_refl _) hb)
      have HOc := hide (ownsRow_below' (HOq.out _) hb)
      have hmm : m ≤ 1048576 := by have := own_len HOc.out; rw [List.length_append] at this; omega
      clear hb cV v0 v1 v2 v3 hlp HOq HBq HB
      go_upto_if 50 with fail
      go_cut [3] (fun s wc => ∃ (m' : Nat) (v' : Value), v' = s ∧ wc.ownsRow wv.heap.size 39 5 v' m' (ints (L ++ sfP X Y Z f x y z 1)) ∧ Below wv.heap.size wv wc)
      case first =>
        by_cases hv : V ≤ 0
        · have HL : Hid (L ++ sfP X Y Z f x y z 0 ++ [x, y, z, 1, -1] = L ++ sfP X Y Z f x y z 1) := by show _ ++ _ = _; rw [HQ.out, fcL_in hv, List.append_assoc]
          go_wp2_with (refine growF x0 rfl _ _ rfl wv.heap.size vv0 m (L ++ sfP X Y Z f x y z 0) rfl wv HOc.out HBc.out HBc.out.size x y z 1 (-1) rfl hmm ?_)
          intro v' w' ho hb hs
          have HOd : Hid (w'.ownsRow wv.heap.size 39 5 v' (m + 1) (ints (L ++ sfP X Y Z f x y z 1))) := by rw [← HL.out, List.append_assoc]; exact ho
          have HBd := hide hb
          clear ho hb hs
          go_wp2_with fail
          go_meet
          exact ⟨_, _, rfl, HOd.out, HBd.out⟩
        · have HL : Hid (L ++ sfP X Y Z f x y z 0 = L ++ sfP X Y Z f x y z 1) := by show _ ++ _ = _; rw [HQ.out, fcL_out hv, List.append_nil]
          go_wp2_with fail
          go_meet
          exact ⟨_, _, rfl, by rw [← HL.out]; exact HOc.out, HBc.out⟩
      case rest =>
        obtain ⟨m1, vv1, rfl, ho, hb⟩ := hcut
        have HO1 := hide ho
        have HB1 := hide hb
        clear ho hb HOc HBc HQ hmm
        obtain ⟨v0, v1, v2, v3⟩ := HBx.out _ HB1.out
        have cV := l7At_any X Y Z (some ⟨b, off, none⟩) n cap f hX hY hZ HNn.out (x + 1) y z
        have HQ : Hid (sfP X Y Z f x y z 2 = sfP X Y Z f x y z 1 ++ fcL (vAt X Y Z f (x + 1) y z) [x + 1, y, z, 1, 1]) := rfl
        generalize vAt X Y Z f (x + 1) y z = V at *
        have hlp := sfP_len X Y Z f x y z 1
        go_wp2_with fail
        refine (cV _ (HP.out.below (HB1.out))).mono ?_
        rintro e x1 ⟨rfl, hb⟩
        have HBc := hide (bnext (HB1.out) (Nat.le_refl _) hb)
        have HOc := hide (ownsRow_below' (HO1.out) hb)
        have hmm : m1 ≤ 1048576 := by have := own_len HOc.out; rw [List.length_append] at this; omega
        clear hb cV v0 v1 v2 v3 hlp HO1 HB1
        go_upto_if 64 with fail
        go_cut [3] (fun s wc => ∃ (m' : Nat) (v' : Value), v' = s ∧ wc.ownsRow wv.heap.size 39 5 v' m' (ints (L ++ sfP X Y Z f x y z 2)) ∧ Below wv.heap.size wv wc)
        case first =>
          by_cases hv : V ≤ 0
          · have HL : Hid (L ++ sfP X Y Z f x y z 1 ++ [x + 1, y, z, 1, 1] = L ++ sfP X Y Z f x y z 2) := by show _ ++ _ = _; rw [HQ.out, fcL_in hv, List.append_assoc]
            go_wp2_with (refine growF x1 rfl _ _ rfl wv.heap.size vv1 m1 (L ++ sfP X Y Z f x y z 1) rfl wv HOc.out HBc.out HBc.out.size (x + 1) y z 1 1 rfl hmm ?_)
            intro v' w' ho hb hs
            have HOd : Hid (w'.ownsRow wv.heap.size 39 5 v' (m1 + 1) (ints (L ++ sfP X Y Z f x y z 2))) := by rw [← HL.out, List.append_assoc]; exact ho
            have HBd := hide hb
            clear ho hb hs
            go_wp2_with fail
            go_meet
            exact ⟨_, _, rfl, HOd.out, HBd.out⟩
          · have HL : Hid (L ++ sfP X Y Z f x y z 1 = L ++ sfP X Y Z f x y z 2) := by show _ ++ _ = _; rw [HQ.out, fcL_out hv, List.append_nil]
            go_wp2_with fail
            go_meet
            exact ⟨_, _, rfl, by rw [← HL.out]; exact HOc.out, HBc.out⟩
        case rest =>
          obtain ⟨m2, vv2, rfl, ho, hb⟩ := hcut
          have HO2 := hide ho
          have HB2 := hide hb
          clear ho hb HOc HBc HQ hmm
          obtain ⟨v0, v1, v2, v3⟩ := HBx.out _ HB2.out
          have cV := l7At_any X Y Z (some ⟨b, off, none⟩) n cap f hX hY hZ HNn.out x (y - 1) z
          have HQ : Hid (sfP X Y Z f x y z 3 = sfP X Y Z f x y z 2 ++ fcL (vAt X Y Z f x (y - 1) z) [x, y, z, 2, -1]) := rfl
          generalize vAt X Y Z f x (y - 1) z = V at *
          have hlp := sfP_len X Y Z f x y z 2
          go_wp2_with fail
          refine (cV _ (HP.out.below (HB2.out))).mono ?_
          rintro e x2 ⟨rfl, hb⟩
          have HBc := hide (bnext (HB2.out) (Nat.le_refl _) hb)
          have HOc := hide (ownsRow_below' (HO2.out) hb)
          have hmm : m2 ≤ 1048576 := by have := own_len HOc.out; rw [List.length_append] at this; omega
          clear hb cV v0 v1 v2 v3 hlp HO2 HB2
          go_upto_if 79 with fail
          go_cut [3] (fun s wc => ∃ (m' : Nat) (v' : Value), v' = s ∧ wc.ownsRow wv.heap.size 39 5 v' m' (ints (L ++ sfP X Y Z f x y z 3)) ∧ Below wv.heap.size wv wc)
          case first =>
            by_cases hv : V ≤ 0
            · have HL : Hid (L ++ sfP X Y Z f x y z 2 ++ [x, y, z, 2, -1] = L ++ sfP X Y Z f x y z 3) := by show _ ++ _ = _; rw [HQ.out, fcL_in hv, List.append_assoc]
              go_wp2_with (refine growF x2 rfl _ _ rfl wv.heap.size vv2 m2 (L ++ sfP X Y Z f x y z 2) rfl wv HOc.out HBc.out HBc.out.size x y z 2 (-1) rfl hmm ?_)
              intro v' w' ho hb hs
              have HOd : Hid (w'.ownsRow wv.heap.size 39 5 v' (m2 + 1) (ints (L ++ sfP X Y Z f x y z 3))) := by rw [← HL.out, List.append_assoc]; exact ho
              have HBd := hide hb
              clear ho hb hs
              go_wp2_with fail
              go_meet
              exact ⟨_, _, rfl, HOd.out, HBd.out⟩
            · have HL : Hid (L ++ sfP X Y Z f x y z 2 = L ++ sfP X Y Z f x y z 3) := by show _ ++ _ = _; rw [HQ.out, fcL_out hv, List.append_nil]
              go_wp2_with fail
              go_meet
              exact ⟨_, _, rfl, by rw [← HL.out]; exact HOc.out, HBc.out⟩
          case rest =>
            obtain ⟨m3, vv3, rfl, ho, hb⟩ := hcut
            have HO3 := hide ho
            have HB3 := hide hb
            clear ho hb HOc HBc HQ hmm
            obtain ⟨v0, v1, v2, v3⟩ := HBx.out _ HB3.out
            have cV := l7At_any X Y Z (some ⟨b, off, none⟩) n cap f hX hY hZ HNn.out x (y + 1) z
            have HQ : Hid (sfP X Y Z f x y z 4 = sfP X Y Z f x y z 3 ++ fcL (vAt X Y Z f x (y + 1) z) [x, y + 1, z, 2, 1]) := rfl
            generalize vAt X Y Z f x (y + 1) z = V at *
            have hlp := sfP_len X Y Z f x y z 3
            go_wp2_with fail
            refine (cV _ (HP.out.below (HB3.out))).mono ?_
            rintro e x3 ⟨rfl, hb⟩
            have HBc := hide (bnext (HB3.out) (Nat.le_refl _) hb)
            have HOc := hide (ownsRow_below' (HO3.out) hb)
            have hmm : m3 ≤ 1048576 := by have := own_len HOc.out; rw [List.length_append] at this; omega
            clear hb cV v0 v1 v2 v3 hlp HO3 HB3
            go_upto_if 93 with fail
            go_cut [3] (fun s wc => ∃ (m' : Nat) (v' : Value), v' = s ∧ wc.ownsRow wv.heap.size 39 5 v' m' (ints (L ++ sfP X Y Z f x y z 4)) ∧ Below wv.heap.size wv wc)
            case first =>
              by_cases hv : V ≤ 0
              · have HL : Hid (L ++ sfP X Y Z f x y z 3 ++ [x, y + 1, z, 2, 1] = L ++ sfP X Y Z f x y z 4) := by show _ ++ _ = _; rw [HQ.out, fcL_in hv, List.append_assoc]
                go_wp2_with (refine growF x3 rfl _ _ rfl wv.heap.size vv3 m3 (L ++ sfP X Y Z f x y z 3) rfl wv HOc.out HBc.out HBc.out.size x (y + 1) z 2 1 rfl hmm ?_)
                intro v' w' ho hb hs
                have HOd : Hid (w'.ownsRow wv.heap.size 39 5 v' (m3 + 1) (ints (L ++ sfP X Y Z f x y z 4))) := by rw [← HL.out, List.append_assoc]; exact ho
                have HBd := hide hb
                clear ho hb hs
                go_wp2_with fail
                go_meet
                exact ⟨_, _, rfl, HOd.out, HBd.out⟩
              · have HL : Hid (L ++ sfP X Y Z f x y z 3 = L ++ sfP X Y Z f x y z 4) := by show _ ++ _ = _; rw [HQ.out, fcL_out hv, List.append_nil]
                go_wp2_with fail
                go_meet
                exact ⟨_, _, rfl, by rw [← HL.out]; exact HOc.out, HBc.out⟩
            case rest =>
              obtain ⟨m4, vv4, rfl, ho, hb⟩ := hcut
              have HO4 := hide ho
              have HB4 := hide hb
              clear ho hb HOc HBc HQ hmm
              obtain ⟨v0, v1, v2, v3⟩ := HBx.out _ HB4.out
              have cV := l7At_any X Y Z (some ⟨b, off, none⟩) n cap f hX hY hZ HNn.out x y (z - 1)
              have HQ : Hid (sfP X Y Z f x y z 5 = sfP X Y Z f x y z 4 ++ fcL (vAt X Y Z f x y (z - 1)) [x, y, z, 3, -1]) := rfl
              generalize vAt X Y Z f x y (z - 1) = V at *
              have hlp := sfP_len X Y Z f x y z 4
              go_wp2_with fail
              refine (cV _ (HP.out.below (HB4.out))).mono ?_
              rintro e x4 ⟨rfl, hb⟩
              have HBc := hide (bnext (HB4.out) (Nat.le_refl _) hb)
              have HOc := hide (ownsRow_below' (HO4.out) hb)
              have hmm : m4 ≤ 1048576 := by have := own_len HOc.out; rw [List.length_append] at this; omega
              clear hb cV v0 v1 v2 v3 hlp HO4 HB4
              go_upto_if 108 with fail
              go_cut [3] (fun s wc => ∃ (m' : Nat) (v' : Value), v' = s ∧ wc.ownsRow wv.heap.size 39 5 v' m' (ints (L ++ sfP X Y Z f x y z 5)) ∧ Below wv.heap.size wv wc)
              case first =>
                by_cases hv : V ≤ 0
                · have HL : Hid (L ++ sfP X Y Z f x y z 4 ++ [x, y, z, 3, -1] = L ++ sfP X Y Z f x y z 5) := by show _ ++ _ = _; rw [HQ.out, fcL_in hv, List.append_assoc]
                  go_wp2_with (refine growF x4 rfl _ _ rfl wv.heap.size vv4 m4 (L ++ sfP X Y Z f x y z 4) rfl wv HOc.out HBc.out HBc.out.size x y z 3 (-1) rfl hmm ?_)
                  intro v' w' ho hb hs
                  have HOd : Hid (w'.ownsRow wv.heap.size 39 5 v' (m4 + 1) (ints (L ++ sfP X Y Z f x y z 5))) := by rw [← HL.out, List.append_assoc]; exact ho
                  have HBd := hide hb
                  clear ho hb hs
                  go_wp2_with fail
                  go_meet
                  exact ⟨_, _, rfl, HOd.out, HBd.out⟩
                · have HL : Hid (L ++ sfP X Y Z f x y z 4 = L ++ sfP X Y Z f x y z 5) := by show _ ++ _ = _; rw [HQ.out, fcL_out hv, List.append_nil]
                  go_wp2_with fail
                  go_meet
                  exact ⟨_, _, rfl, by rw [← HL.out]; exact HOc.out, HBc.out⟩
              case rest =>
                obtain ⟨m5, vv5, rfl, ho, hb⟩ := hcut
                have HO5 := hide ho
                have HB5 := hide hb
                clear ho hb HOc HBc HQ hmm
                obtain ⟨v0, v1, v2, v3⟩ := HBx.out _ HB5.out
                have cV := l7At_any X Y Z (some ⟨b, off, none⟩) n cap f hX hY hZ HNn.out x y (z + 1)
                have HQ : Hid (sfP X Y Z f x y z 6 = sfP X Y Z f x y z 5 ++ fcL (vAt X Y Z f x y (z + 1)) [x, y, z + 1, 3, 1]) := rfl
                generalize vAt X Y Z f x y (z + 1) = V at *
                have hlp := sfP_len X Y Z f x y z 5
                go_wp2_with fail
                refine (cV _ (HP.out.below (HB5.out))).mono ?_
                rintro e x5 ⟨rfl, hb⟩
                have HBc := hide (bnext (HB5.out) (Nat.le_refl _) hb)
                have HOc := hide (ownsRow_below' (HO5.out) hb)
                have hmm : m5 ≤ 1048576 := by have := own_len HOc.out; rw [List.length_append] at this; omega
                clear hb cV v0 v1 v2 v3 hlp HO5 HB5
                go_upto_if 122 with fail
                by_cases hv : V ≤ 0
                · have HL : Hid (L ++ sfP X Y Z f x y z 5 ++ [x, y, z + 1, 3, 1] = L ++ sfP X Y Z f x y z 6) := by show _ ++ _ = _; rw [HQ.out, fcL_in hv, List.append_assoc]
                  go_wp2_with (refine growF x5 rfl _ _ rfl wv.heap.size vv5 m5 (L ++ sfP X Y Z f x y z 5) rfl wv HOc.out HBc.out HBc.out.size x y (z + 1) 3 1 rfl hmm ?_)
                  intro v' w' ho hb hs
                  have HOd : Hid (w'.ownsRow wv.heap.size 39 5 v' (m5 + 1) (ints (L ++ sfP X Y Z f x y z 6))) := by rw [← HL.out, List.append_assoc]; exact ho
                  have HBd := hide hb
                  clear ho hb hs
                  go_wp2_with fail
                  exact ⟨⟨k + 1, _, _, by omega, rfl, rfl, by rw [HK.out]; exact HOd.out, HBd.out⟩, by simp [intOf]; omega⟩
                · have HL : Hid (L ++ sfP X Y Z f x y z 5 = L ++ sfP X Y Z f x y z 6) := by show _ ++ _ = _; rw [HQ.out, fcL_out hv, List.append_nil]
                  go_wp2_with fail
                  exact ⟨⟨k + 1, _, _, by omega, rfl, rfl, by rw [HK.out, ← HL.out]; exact HOc.out, HBc.out⟩, by simp [intOf]; omega⟩
    · obtain rfl : k = n := by omega
      obtain ⟨v0, v1, v2, v3⟩ := HBx.out _ HB.out
      obtain ⟨a9, cap9, b9, rfl, how, hB9⟩ := ow_faces HO.out
      have hll := own_len HO.out
      have HR : Hid ((srf X Y Z f k).length / 5 = m) := by show _ / _ = _; omega
      have HF : Hid (FcR m (srfF X Y Z k f) w (.returned (.slice a9 m cap9)) wr) := ⟨a9, cap9, b9, rfl, how, by have := HZ.out; omega, bnext HSv.out.below (Nat.le_refl _) HB.out⟩
      clear how hll hB9 HO HB v0 v1 v2
      go_wp2_with fail
      go_ret
      rw [HR.out]
      exact HF.out

end Go.Proofs.Ytkkmoidbnbpfkaa

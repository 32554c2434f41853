/- Leaves: the specification, its answer as a list of the call's own. -/
import Derived.Test.YtfpeobkncileiaaLls
namespace Go.Proofs.Ytfpeobkncileiaa
open Go.RowKit

/-- leaves are answered, in a list of the call's own -/
def LfO (n : Nat) (L : List Int) (w : World) (e : Ending) (w' : World) : Prop := ∃ v, e = .returned v ∧ w'.ownsRow w.heap.size 42 3 v n (ints L) ∧ Below w.heap.size w w'
def lvL (n : Nat) (f : Nat → Int) : List Int := if rlB n f = true then lvF n f else []
theorem lvN_small (n : Nat) (f : Nat → Int) : lvN n f ≤ 65000 := by
  unfold lvN
  cases h : rlB n f
  · simp
  · obtain ⟨h1, h2⟩ := rlB_parts h
    have := (gat_len (lvU n f) (lvD n f) (lvU n f).length).2
    have h3 := up_bd (rr_bd h2) (n + 1)
    rw [if_pos rfl]
    unfold lvC
    unfold lvU at this ⊢
    omega

set_option maxRecDepth 100000 in
set_option maxHeartbeats 16000000 in
theorem specLeavesO_any (a : Option Addr) (n cap : Nat) (f : Nat → Int) (hl : n ≤ 1048576) (w : World) (h : Px a n f w) :
    Calls Try.prog 21 #[.slice a n cap] w (LfO (lvN n f) (lvL n f) w) := by
  have hb0 := bnew w (.cells #[] 42)
  have HO0 : Hid ((w.alloc (.cells #[] 42)).ownsRow w.heap.size 42 3 (.slice (some ⟨w.heap.size, 0, none⟩) 0 0) 0 (ints [])) := World.ownsRow_lit w #[] 0 (Nat.le_refl _) (by unfold maxLen; omega) rfl
  have c0 := l11Row_any a n cap f hl _ (h.below hb0)
  have HB0 := hide hb0
  have HP := hide h
  clear h hb0
  obtain ⟨wa, hwa⟩ : ∃ wa, wa = w.alloc (.cells #[] 42) := ⟨_, rfl⟩
  have HZ : Hid (wa.heap.size = w.heap.size + 1) := by show _ = _; rw [hwa]; simp
  rw [← hwa] at HO0 HB0 c0
  have hwa' := hwa.symm
  clear hwa
  unfold lvN lvL
  cases hq : rlB n f
  · rw [hq] at c0
    simp only [Bool.false_eq_true, if_false]
    clear hq HP
    go_enter Try.func21, Try.ntmps21
    go_wp2_with fail
    refine c0.mono ?_
    rintro e w1 ⟨rfl, rfl⟩
    go_wp2_with fail
    go_ret
    exact ⟨_, rfl, HO0.out, HB0.out⟩
  rw [hq] at c0
  simp only [if_true]
  obtain ⟨hn, hf⟩ := rlB_parts hq
  have HR := hide (rr_bd (n := n) hf)
  have HE : Hid (∀ v w', w'.ownsRow w.heap.size 42 3 v (gtc (lvU n f) (lvD n f) (lvU n f).length) (ints (gat (lvU n f) (lvD n f) (lvU n f).length)) → Below w.heap.size w w' → LfO (lvC n f) (lvF n f) w (.returned v) w') := fun v w' h1 h2 => ⟨v, rfl, h1, h2⟩
  generalize lvF n f = S at *
  generalize lvC n f = Rn at *
  have HO1 : Hid (((wa.alloc (.cells #[] 2)).alloc (.cells #[] 2)).ownsRow (w.heap.size + 1) 2 1 (.slice (some ⟨w.heap.size + 1, 0, none⟩) 0 0) 0 (ints [])) := by
    have := World.ownsRow_lit (e := 2) (size := 1) (base := w.heap.size + 1) wa #[] 0 (by rw [HZ.out]; omega) (by unfold maxLen; omega) rfl
    rw [HZ.out] at this
    exact World.ownsRow.alloc this _
  have HO2 : Hid (((wa.alloc (.cells #[] 2)).alloc (.cells #[] 2)).ownsRow (w.heap.size + 1) 2 1 (.slice (some ⟨w.heap.size + 2, 0, none⟩) 0 0) 0 (ints [])) := by
    have := World.ownsRow_lit (e := 2) (size := 1) (base := w.heap.size + 1) (wa.alloc (.cells #[] 2)) #[] 0 (by simp [HZ.out]) (by unfold maxLen; omega) rfl
    rw [show (wa.alloc (.cells #[] 2)).heap.size = w.heap.size + 2 by simp [HZ.out]] at this
    exact this
  have HOo : Hid (((wa.alloc (.cells #[] 2)).alloc (.cells #[] 2)).ownsRow w.heap.size 42 3 (.slice (some ⟨w.heap.size, 0, none⟩) 0 0) 0 (ints [])) := (HO0.out.alloc _).alloc _
  have HBb : Hid (Below w.heap.size w ((wa.alloc (.cells #[] 2)).alloc (.cells #[] 2))) := (HB0.out.alloc HB0.out.size _).alloc (by have := HB0.out.size; simp; omega) _
  have HZb : Hid (((wa.alloc (.cells #[] 2)).alloc (.cells #[] 2)).heap.size = w.heap.size + 3) := by show _ = _; simp [HZ.out]
  have hz1 := HZ.out
  clear hq HO0 HB0 hf
  go_enter Try.func21, Try.ntmps21
  go_wp2_with fail
  refine c0.mono ?_
  rintro e w1 ⟨rfl, rfl⟩
  clear c0 hwa'
  go_wp2_with fail
  generalize (w1.alloc (.cells #[] 2)).alloc (.cells #[] 2) = wb at *
  clear hz1 HZ
  go_loopw [4, 5, 6, 7, 8, 9, 10] (fun v4 v5 s i _ _ _ wr => ∃ k : Nat, k ≤ n + 1 ∧ i = .int .i64 k ∧ s = .int .i64 (rr f n k) ∧ wr.ownsRow (w.heap.size + 1) 2 1 v4 (upL (rr f n) k).length (ints (upL (rr f n) k)) ∧ wr.ownsRow (w.heap.size + 1) 2 1 v5 (dnL (rr f n) k).length (ints (dnL (rr f n) k)) ∧ Apart v4 v5 ∧ Below (w.heap.size + 1) wb wr) (fun _ _ _ i _ _ _ _ => n + 1 - (intOf i).toNat)
  case atStart => exact ⟨0, by omega, rfl, rfl, HO1.out, HO2.out, fun b hb hb' => by cases hb; simp [Value.ownBlock] at hb', Below.refl _ _⟩
  case round =>
    clear HO1 HO2
    obtain ⟨k, hk, rfl, rfl, ho4, ho5, hap, hb⟩ := hrel
    have hbw : Below w.heap.size w wr := HBb.out.trans (hb.mono (by omega))
    by_cases hle : k ≤ n
    · have HO4 := hide ho4
      have HO5 := hide ho5
      have HAp := hide hap
      have HB := hide hb
      have hA := HR.out k
      have hC := HR.out (k + 1)
      have hu := up_bd HR.out k
      have hd := dn_bd HR.out k
      have HU : Hid (upL (rr f n) (k + 1) = upL (rr f n) k ++ List.replicate (rr f n (k + 1) - rr f n k).toNat (k : Int)) := rfl
      have HD : Hid (dnL (rr f n) (k + 1) = dnL (rr f n) k ++ List.replicate (rr f n k - rr f n (k + 1)).toNat (k : Int)) := rfl
      have HRk : Hid (∀ y, rr f n (k + 1) = y → y = rr f n (k + 1)) := fun y h => h.symm
      have hnow : (k < n ∧ rr f n (k + 1) = f k) ∨ (k = n ∧ rr f n (k + 1) = 0) := by
        rcases Nat.lt_or_ge k n with h1 | h1
        · exact .inl ⟨h1, rr_in h1⟩
        · obtain rfl : k = n := by omega
          exact .inr ⟨rfl, rr_end f k⟩
      clear ho4 ho5 hap hb
      rcases hnow with ⟨hkn, hre⟩ | ⟨rfl, hre⟩
      · obtain ⟨b, off, rfl, z0⟩ := (HP.out.below hbw).at hkn
        rw [← hre] at z0
        have hkle : (k : Int) ≤ (n : Int) := by omega
        have hklt : (k : Int) < (n : Int) := by omega
        clear hbw HP HE HOo HBb HR
        have HRe := hide hre
        clear hre
        go_wp2_with fail
        clear z0
        go_loopw [4, 9] (fun v4 j wr => ∃ t : Nat, t ≤ (rr f n (k + 1) - rr f n k).toNat ∧ j = .int .i64 (rr f n k + t) ∧ wr.ownsRow (w.heap.size + 1) 2 1 v4 ((upL (rr f n) k).length + t) (ints (upL (rr f n) k ++ List.replicate t (k : Int))) ∧ wr.ownsRow (w.heap.size + 1) 2 1 u5 (dnL (rr f n) k).length (ints (dnL (rr f n) k)) ∧ Apart v4 u5 ∧ Below (w.heap.size + 1) wb wr) (fun _ j _ => (rr f n (k + 1) - intOf j).toNat)
        case atStart => exact ⟨0, by omega, by simp, by simpa using HO4.out, HO5.out, HAp.out, HB.out⟩
        case round =>
          clear HO4 HO5 HAp HB
          obtain ⟨t, ht, rfl, ho4, ho5, hap, hb⟩ := hrel
          have HO4 := hide ho4
          have HO5 := hide ho5
          have HAp := hide hap
          have HB := hide hb
          have HZs : Hid (w.heap.size + 1 ≤ wr.heap.size) := by show _ ≤ _; have h1 := hb.size; have h2 := HZb.out; omega
          clear ho4 ho5 hap hb
          by_cases htd : t < (rr f n (k + 1) - rr f n k).toNat
          · have hjc : rr f n k + (t : Int) < rr f n (k + 1) := by omega
            have HNL : Hid ((upL (rr f n) k).length + t ≤ 1048576) := by show _ ≤ _; omega
            have HJ : Hid (rr f n k + ((t + 1 : Nat) : Int) = rr f n k + (t : Int) + 1) := by show _ = _; omega
            have HM : Hid (∀ y, rr f n k + (t : Int) = y → (rr f n (k + 1) - (y + 1)).toNat < (rr f n (k + 1) - y).toNat) := fun y hy => by omega
            have hjb : -1 ≤ rr f n k + (t : Int) ∧ rr f n k + (t : Int) ≤ 2000 := by omega
            generalize rr f n k + (t : Int) = J at *
            have HM' := hide (HM.out J rfl)
            clear hu hd HU HD HRk HM hA hC
            go_wp2_with (refine growN _ rfl _ _ rfl (w.heap.size + 1) _ _ (upL (rr f n) k ++ List.replicate t (k : Int)) rfl wb HO4.out HB.out HZs.out (k : Int) rfl HNL.out ?_)
            intro v' w7 ho1 hb1 hs1 hk1 hm1
            have HO1 : Hid (w7.ownsRow (w.heap.size + 1) 2 1 v' ((upL (rr f n) k).length + (t + 1)) (ints (upL (rr f n) k ++ List.replicate (t + 1) (k : Int)))) := by
              rw [← rep_step, List.append_assoc]; exact ho1
            have HB1 := hide hb1
            have HAp1 := hide (HAp.out.symm.moved hm1 HO5.out).symm
            have HO51 := hide (owns_side HO5.out hk1 HAp.out.symm)
            clear ho1 hb1 hs1 hk1 hm1 HO4 HO5 HAp HB HZs HNL
            go_wp2_with fail
            exact ⟨⟨t + 1, by omega, by rw [HJ.out], HO1.out, HO51.out, HAp1.out, HB1.out⟩, HM'.out⟩
          · have hte : t = (rr f n (k + 1) - rr f n k).toNat := by omega
            have HO4' : Hid (wr.ownsRow (w.heap.size + 1) 2 1 u4 (upL (rr f n) (k + 1)).length (ints (upL (rr f n) (k + 1)))) := by
              rw [HU.out, List.length_append, List.length_replicate, ← hte]; exact HO4.out
            have hjc : ¬ rr f n k + (t : Int) < rr f n (k + 1) := by omega
            obtain ⟨J, hJ⟩ : ∃ J, rr f n k + (t : Int) = J := ⟨_, rfl⟩
            rw [hJ] at hjc ⊢
            clear HO4 hte hJ ht htd
            go_wp2_with fail
            go_loopw [5, 10] (fun v5 j wr => ∃ t : Nat, t ≤ (rr f n k - rr f n (k + 1)).toNat ∧ j = .int .i64 (rr f n (k + 1) + t) ∧ wr.ownsRow (w.heap.size + 1) 2 1 v5 ((dnL (rr f n) k).length + t) (ints (dnL (rr f n) k ++ List.replicate t (k : Int))) ∧ wr.ownsRow (w.heap.size + 1) 2 1 u4 (upL (rr f n) (k + 1)).length (ints (upL (rr f n) (k + 1))) ∧ Apart u4 v5 ∧ Below (w.heap.size + 1) wb wr) (fun _ j _ => (rr f n k - intOf j).toNat)
            case atStart => exact ⟨0, by omega, by simp, by simpa using HO5.out, HO4'.out, HAp.out, HB.out⟩
            case round =>
              clear HO4' HO5 HAp HB HZs
              obtain ⟨t, ht, rfl, ho5, ho4, hap, hb⟩ := hrel
              have HO4 := hide ho4
              have HO5 := hide ho5
              have HAp := hide hap
              have HB := hide hb
              have HZs : Hid (w.heap.size + 1 ≤ wr.heap.size) := by show _ ≤ _; have h1 := hb.size; have h2 := HZb.out; omega
              clear ho4 ho5 hap hb
              by_cases htd : t < (rr f n k - rr f n (k + 1)).toNat
              · have hjc : rr f n (k + 1) + (t : Int) < rr f n k := by omega
                have HNL : Hid ((dnL (rr f n) k).length + t ≤ 1048576) := by show _ ≤ _; omega
                have HJ : Hid (rr f n (k + 1) + ((t + 1 : Nat) : Int) = rr f n (k + 1) + (t : Int) + 1) := by show _ = _; omega
                have HM : Hid (∀ y, rr f n (k + 1) + (t : Int) = y → (rr f n k - (y + 1)).toNat < (rr f n k - y).toNat) := fun y hy => by omega
                have hjb : -1 ≤ rr f n (k + 1) + (t : Int) ∧ rr f n (k + 1) + (t : Int) ≤ 2000 := by omega
                generalize rr f n (k + 1) + (t : Int) = J at *
                have HM' := hide (HM.out J rfl)
                clear hu hd HU HD HRk HM hA hC
                go_wp2_with (refine growN _ rfl _ _ rfl (w.heap.size + 1) _ _ (dnL (rr f n) k ++ List.replicate t (k : Int)) rfl wb HO5.out HB.out HZs.out (k : Int) rfl HNL.out ?_)
                intro v' w7 ho1 hb1 hs1 hk1 hm1
                have HO1 : Hid (w7.ownsRow (w.heap.size + 1) 2 1 v' ((dnL (rr f n) k).length + (t + 1)) (ints (dnL (rr f n) k ++ List.replicate (t + 1) (k : Int)))) := by
                  rw [← rep_step, List.append_assoc]; exact ho1
                have HB1 := hide hb1
                have HAp1 := hide (HAp.out.moved hm1 HO4.out)
                have HO41 := hide (owns_side HO4.out hk1 HAp.out)
                clear ho1 hb1 hs1 hk1 hm1 HO4 HO5 HAp HB HZs HNL
                go_wp2_with fail
                exact ⟨⟨t + 1, by omega, by rw [HJ.out], HO1.out, HO41.out, HAp1.out, HB1.out⟩, HM'.out⟩
              · have hte : t = (rr f n k - rr f n (k + 1)).toNat := by omega
                have HO5' : Hid (wr.ownsRow (w.heap.size + 1) 2 1 u5 (dnL (rr f n) (k + 1)).length (ints (dnL (rr f n) (k + 1)))) := by
                  rw [HD.out, List.length_append, List.length_replicate, ← hte]; exact HO5.out
                have hjc : ¬ rr f n (k + 1) + (t : Int) < rr f n k := by omega
                obtain ⟨J, hJ⟩ : ∃ J, rr f n (k + 1) + (t : Int) = J := ⟨_, rfl⟩
                rw [hJ] at hjc ⊢
                clear HO5 hte hJ ht htd hu hd HU HD HRk
                go_wp2_with fail
                exact ⟨⟨k + 1, by omega, rfl, rfl, HO4.out, HO5'.out, HAp.out, HB.out⟩, by first | (simp [intOf]; done) | (simp [intOf]; omega)⟩
      · have hklt : ¬ (k : Int) < (k : Int) := by omega
        have hkle : (k : Int) ≤ (k : Int) := by omega
        clear hbw HP HE HOo HBb HR
        rw [hre] at HU HD HRk hC
        clear hre
        go_wp2_with fail
        go_loopw [4, 9] (fun v4 j wr => ∃ t : Nat, t ≤ ((0 : Int) - rr f k k).toNat ∧ j = .int .i64 (rr f k k + t) ∧ wr.ownsRow (w.heap.size + 1) 2 1 v4 ((upL (rr f k) k).length + t) (ints (upL (rr f k) k ++ List.replicate t (k : Int))) ∧ wr.ownsRow (w.heap.size + 1) 2 1 u5 (dnL (rr f k) k).length (ints (dnL (rr f k) k)) ∧ Apart v4 u5 ∧ Below (w.heap.size + 1) wb wr) (fun _ j _ => ((0 : Int) - intOf j).toNat)
        case atStart => exact ⟨0, by omega, by simp, by simpa using HO4.out, HO5.out, HAp.out, HB.out⟩
        case round =>
          clear HO4 HO5 HAp HB
          obtain ⟨t, ht, rfl, ho4, ho5, hap, hb⟩ := hrel
          have HO4 := hide ho4
          have HO5 := hide ho5
          have HAp := hide hap
          have HB := hide hb
          have HZs : Hid (w.heap.size + 1 ≤ wr.heap.size) := by show _ ≤ _; have h1 := hb.size; have h2 := HZb.out; omega
          clear ho4 ho5 hap hb
          by_cases htd : t < ((0 : Int) - rr f k k).toNat
          · have hjc : rr f k k + (t : Int) < (0 : Int) := by omega
            have HNL : Hid ((upL (rr f k) k).length + t ≤ 1048576) := by show _ ≤ _; omega
            have HJ : Hid (rr f k k + ((t + 1 : Nat) : Int) = rr f k k + (t : Int) + 1) := by show _ = _; omega
            have HM : Hid (∀ y, rr f k k + (t : Int) = y → ((0 : Int) - (y + 1)).toNat < ((0 : Int) - y).toNat) := fun y hy => by omega
            have hjb : -1 ≤ rr f k k + (t : Int) ∧ rr f k k + (t : Int) ≤ 2000 := by omega
            generalize rr f k k + (t : Int) = J at *
            have HM' := hide (HM.out J rfl)
            clear hu hd HU HD HRk HM hA hC
            go_wp2_with (refine growN _ rfl _ _ rfl (w.heap.size + 1) _ _ (upL (rr f k) k ++ List.replicate t (k : Int)) rfl wb HO4.out HB.out HZs.out (k : Int) rfl HNL.out ?_)
            intro v' w7 ho1 hb1 hs1 hk1 hm1
            have HO1 : Hid (w7.ownsRow (w.heap.size + 1) 2 1 v' ((upL (rr f k) k).length + (t + 1)) (ints (upL (rr f k) k ++ List.replicate (t + 1) (k : Int)))) := by
              rw [← rep_step, List.append_assoc]; exact ho1
            have HB1 := hide hb1
            have HAp1 := hide (HAp.out.symm.moved hm1 HO5.out).symm
            have HO51 := hide (owns_side HO5.out hk1 HAp.out.symm)
            clear ho1 hb1 hs1 hk1 hm1 HO4 HO5 HAp HB HZs HNL
            go_wp2_with fail
            exact ⟨⟨t + 1, by omega, by rw [HJ.out], HO1.out, HO51.out, HAp1.out, HB1.out⟩, HM'.out⟩
          · have hte : t = ((0 : Int) - rr f k k).toNat := by omega
            have HO4' : Hid (wr.ownsRow (w.heap.size + 1) 2 1 u4 (upL (rr f k) (k + 1)).length (ints (upL (rr f k) (k + 1)))) := by
              rw [HU.out, List.length_append, List.length_replicate, ← hte]; exact HO4.out
            have hjc : ¬ rr f k k + (t : Int) < (0 : Int) := by omega
            obtain ⟨J, hJ⟩ : ∃ J, rr f k k + (t : Int) = J := ⟨_, rfl⟩
            rw [hJ] at hjc ⊢
            clear HO4 hte hJ ht htd
            go_wp2_with fail
            go_loopw [5, 10] (fun v5 j wr => ∃ t : Nat, t ≤ (rr f k k - (0 : Int)).toNat ∧ j = .int .i64 ((0 : Int) + t) ∧ wr.ownsRow (w.heap.size + 1) 2 1 v5 ((dnL (rr f k) k).length + t) (ints (dnL (rr f k) k ++ List.replicate t (k : Int))) ∧ wr.ownsRow (w.heap.size + 1) 2 1 u4 (upL (rr f k) (k + 1)).length (ints (upL (rr f k) (k + 1))) ∧ Apart u4 v5 ∧ Below (w.heap.size + 1) wb wr) (fun _ j _ => (rr f k k - intOf j).toNat)
            case atStart => exact ⟨0, by omega, by simp, by simpa using HO5.out, HO4'.out, HAp.out, HB.out⟩
            case round =>
              clear HO4' HO5 HAp HB HZs
              obtain ⟨t, ht, rfl, ho5, ho4, hap, hb⟩ := hrel
              have HO4 := hide ho4
              have HO5 := hide ho5
              have HAp := hide hap
              have HB := hide hb
              have HZs : Hid (w.heap.size + 1 ≤ wr.heap.size) := by show _ ≤ _; have h1 := hb.size; have h2 := HZb.out; omega
              clear ho4 ho5 hap hb
              by_cases htd : t < (rr f k k - (0 : Int)).toNat
              · have hjc : (0 : Int) + (t : Int) < rr f k k := by omega
                have HNL : Hid ((dnL (rr f k) k).length + t ≤ 1048576) := by show _ ≤ _; omega
                have HJ : Hid ((0 : Int) + ((t + 1 : Nat) : Int) = (0 : Int) + (t : Int) + 1) := by show _ = _; omega
                have HM : Hid (∀ y, (0 : Int) + (t : Int) = y → (rr f k k - (y + 1)).toNat < (rr f k k - y).toNat) := fun y hy => by omega
                have hjb : -1 ≤ (0 : Int) + (t : Int) ∧ (0 : Int) + (t : Int) ≤ 2000 := by omega
                generalize (0 : Int) + (t : Int) = J at *
                have HM' := hide (HM.out J rfl)
                clear hu hd HU HD HRk HM hA hC
                go_wp2_with (refine growN _ rfl _ _ rfl (w.heap.size + 1) _ _ (dnL (rr f k) k ++ List.replicate t (k : Int)) rfl wb HO5.out HB.out HZs.out (k : Int) rfl HNL.out ?_)
                intro v' w7 ho1 hb1 hs1 hk1 hm1
                have HO1 : Hid (w7.ownsRow (w.heap.size + 1) 2 1 v' ((dnL (rr f k) k).length + (t + 1)) (ints (dnL (rr f k) k ++ List.replicate (t + 1) (k : Int)))) := by
                  rw [← rep_step, List.append_assoc]; exact ho1
                have HB1 := hide hb1
                have HAp1 := hide (HAp.out.moved hm1 HO4.out)
                have HO41 := hide (owns_side HO4.out hk1 HAp.out)
                clear ho1 hb1 hs1 hk1 hm1 HO4 HO5 HAp HB HZs HNL
                go_wp2_with fail
                exact ⟨⟨t + 1, by omega, by rw [HJ.out], HO1.out, HO41.out, HAp1.out, HB1.out⟩, HM'.out⟩
              · have hte : t = (rr f k k - (0 : Int)).toNat := by omega
                have HO5' : Hid (wr.ownsRow (w.heap.size + 1) 2 1 u5 (dnL (rr f k) (k + 1)).length (ints (dnL (rr f k) (k + 1)))) := by
                  rw [HD.out, List.length_append, List.length_replicate, ← hte]; exact HO5.out
                have hjc : ¬ (0 : Int) + (t : Int) < rr f k k := by omega
                obtain ⟨J, hJ⟩ : ∃ J, (0 : Int) + (t : Int) = J := ⟨_, rfl⟩
                rw [hJ] at hjc ⊢
                clear HO5 hte hJ ht htd hu hd HU HD HRk
                go_wp2_with fail
                exact ⟨⟨k + 1, by omega, rfl, by rw [rr_end], HO4.out, HO5'.out, HAp.out, HB.out⟩, by first | (simp [intOf]; done) | (simp [intOf]; omega)⟩
    · obtain rfl : k = n + 1 := by omega
      have hnle : ¬ ((n + 1 : Nat) : Int) ≤ (n : Int) := by omega
      have HLl := hide (lv_len n f)
      have HUb : Hid ((lvU n f).length ≤ 65000) := by show _ ≤ _; have := up_bd HR.out (n + 1); unfold lvU; omega
      have h4 : wr.ownsRow (w.heap.size + 1) 2 1 u4 (lvU n f).length (ints (lvU n f)) := ho4
      have h5 : wr.ownsRow (w.heap.size + 1) 2 1 u5 (lvD n f).length (ints (lvD n f)) := ho5
      clear ho4 ho5 hap hle hk HP HR
      generalize lvU n f = U at *
      generalize lvD n f = D at *
      have HU := hide (owns_mono (B' := w.heap.size) h4 (by omega))
      have HD := hide (owns_mono (B' := w.heap.size) h5 (by omega))
      have HOn : Hid (wr.ownsRow w.heap.size 42 3 (.slice (some ⟨w.heap.size, 0, none⟩) 0 0) 0 (ints [])) := owns_keep HOo.out fun b hb' => by
        cases hb'
        exact hb.block _ (by show w.heap.size < _; omega)
      have HA4 : Hid (Apart (.slice (some ⟨w.heap.size, 0, none⟩) 0 0) u4) := Apart.below (fun b hb' => by cases hb'; show w.heap.size < _; omega) h4
      have HA5 : Hid (Apart (.slice (some ⟨w.heap.size, 0, none⟩) 0 0) u5) := Apart.below (fun b hb' => by cases hb'; show w.heap.size < _; omega) h5
      have HBw := hide hbw
      obtain ⟨x4, y4, rfl⟩ : ∃ x y, u4 = .slice x U.length y := by
        rcases h4.2 with ⟨hv, h0⟩ | ⟨g', c', cur, hv, _⟩
        · exact ⟨none, 0, by rw [hv, h0]⟩
        · exact ⟨_, _, hv⟩
      obtain ⟨x5, y5, rfl⟩ : ∃ x y, u5 = .slice x D.length y := by
        rcases h5.2 with ⟨hv, h0⟩ | ⟨g', c', cur, hv, _⟩
        · exact ⟨none, 0, by rw [hv, h0]⟩
        · exact ⟨_, _, hv⟩
      clear h4 h5 hb hbw HOo HBb
      go_wp2_with fail
      go_loopw [3, 11, 12] (fun v3 i _ wr => ∃ j : Nat, j ≤ U.length ∧ i = .int .i64 j ∧ wr.ownsRow w.heap.size 42 3 v3 (gtc U D j) (ints (gat U D j)) ∧ wr.ownsRow w.heap.size 2 1 (.slice x4 U.length y4) U.length (ints U) ∧ wr.ownsRow w.heap.size 2 1 (.slice x5 D.length y5) D.length (ints D) ∧ Apart v3 (.slice x4 U.length y4) ∧ Apart v3 (.slice x5 D.length y5) ∧ Below w.heap.size w wr) (fun _ i _ _ => U.length - (intOf i).toNat)
      case atStart => exact ⟨0, by omega, rfl, HOn.out, HU.out, HD.out, HA4.out, HA5.out, HBw.out⟩
      case round =>
        clear HOn HU HD HA4 HA5 HBw
        obtain ⟨j, hj, rfl, ho3, h4, h5, ha4, ha5, hb⟩ := hrel
        have hlen := HLl.out
        by_cases hlt : j < U.length
        · obtain ⟨b4, cp4, he4, -, hc4⟩ := own_partsL h4 (by omega)
          cases he4
          obtain ⟨b5, cp5, he5, -, hc5⟩ := own_partsL h5 (by omega)
          cases he5
          have c4 := (hc4 j hlt).1
          have c5 := (hc5 j (by omega)).1
          have hjD : (j : Int) < (D.length : Int) := by omega
          have hjD' : j < D.length := by omega
          clear hlen
          have HOd0 := hide (fun d => ownsRow_below' ho3 (below_drewN (Below.refl wr.heap.size wr) d))
          have HBd0 := hide (fun d => below_drewN hb d)
          have HU40 := hide (fun d => ownsRow_below' h4 (below_drewN (Below.refl wr.heap.size wr) d))
          have HU50 := hide (fun d => ownsRow_below' h5 (below_drewN (Below.refl wr.heap.size wr) d))
          have hb4 := owns_lt h4 b4 rfl
          have hb5 := owns_lt h5 b5 rfl
          have HA4 := hide ha4
          have HA5 := hide ha5
          have HF := hide (owns_ge ho3)
          have ne4 : some b4 ≠ Value.ownBlock u3 := fun e => ha4 b4 e.symm rfl
          have ne5 : some b5 ≠ Value.ownBlock u3 := fun e => ha5 b5 e.symm rfl
          have hgl := gat_len U D j
          have hgu := gat_unit U D j
          obtain ⟨ti, hi1, hi2, hi3, hi4⟩ := infoL
          have HI1 := hide hi1
          have HT := hide (fun h => gat_t (U := U) (D := D) (k := j) h)
          have HFf := hide (fun h => gat_f (U := U) (D := D) (k := j) h)
          have HU9 := HUb.out
          obtain ⟨X, hX⟩ : ∃ X, U.getD j 0 = X := ⟨_, rfl⟩
          obtain ⟨Y, hY⟩ : ∃ Y, D.getD j 0 = Y := ⟨_, rfl⟩
          rw [hX] at c4 HT HFf
          rw [hY] at c5 HT HFf
          have T4 : Hid (∀ d, (wr.drewN d).cell? ⟨b4, j, none⟩ = some (.int .i64 X)) := fun d => c4
          have T5 : Hid (∀ d, (wr.drewN d).cell? ⟨b5, j, none⟩ = some (.int .i64 Y)) := fun d => c5
          have L4 : Hid (∀ d, b4 < (wr.drewN d).heap.size) := fun d => hb4
          have L5 : Hid (∀ d, b5 < (wr.drewN d).heap.size) := fun d => hb5
          clear hX hY hc4 hc5 h4 h5 ha4 ha5 HE HLl HUb hi1 hb4 hb5
          rcases Nat.eq_zero_or_pos (gtc U D j) with hc0 | hcp
          · have hgn : gat U D j = [] := List.eq_nil_of_length_eq_zero (by rw [hgl.1, hc0])
            have HG := hide (HFf.out (by rw [hgn]; rfl))
            have hv3 : ∃ x y, u3 = .slice x 0 y := by
              rcases ho3.2 with ⟨hv, h0⟩ | ⟨g', c', cur, hv, _⟩
              · exact ⟨none, 0, hv⟩
              · exact ⟨_, _, by rw [hv, hc0]⟩
            obtain ⟨x3, y3, rfl⟩ := hv3
            rw [hc0] at HOd0 HG
            have q0 : ¬ (0 : Int) < ((0 : Nat) : Int) := by omega
            clear hgn HT HFf hgu hgl ho3 hb hc0
            go_wp2_with fail
            go_quiet (fail)
            have HOd := hide (HOd0.out nq)
            have HBd := hide (HBd0.out nq)
            have HZd := hide HBd.out.size
            have HU4 := hide (HU40.out nq)
            have HU5 := hide (HU50.out nq)
            have t4 := T4.out nq
            have t5 := T5.out nq
            have l4 := L4.out nq
            have l5 := L5.out nq
            clear HOd0 HBd0 HU40 HU50 T4 T5 L4 L5 c4 c5 q0
            generalize wr.drewN nq = wd at *
            have SKa := hide (And.intro t4 t5)
            have hsr := HZd.out
            go_upto_region 28 with fail
            go_region_held3 (fun w' => w'.cell? ⟨b4, j, none⟩ = some (.int .i64 X) ∧ w'.cell? ⟨b5, j, none⟩ = some (.int .i64 Y))
              (first
                | exact SKa.out
                | go_keep
                | (go_split_ands
                   refine ⟨?_, ?_⟩
                   · (rw [hgrow.cell_far ⟨b4, j, none⟩ (by simp; omega) ne4]; assumption)
                   · (rw [hgrow.cell_far ⟨b5, j, none⟩ (by simp; omega) ne5]; assumption)))
              (first
                | (refine step_append_lies _ (by rfl) _ _ _ (by rfl) w.heap.size 42 ti _ 3 24 Try.underlying26 HI1.out hi2 hi3 hi4 rfl (by omega) (.slice x3 0 y3) 0 (ints (gat U D j)) (by rfl) ((HOd.out.alloc _).drew)
                    ⟨wd.heap.size, 0, none⟩ 1 1 [.int .i64 X, .int .i64 Y, .int .i64 1] (by rfl) (by rfl) (World.news_of_block (cs := #[.int .i64 X, .int .i64 Y, .int .i64 1]) (t := 42) (fr := (0, 0)) (heap_alloc_new wd _)) (by simp [Value.oneCell'])
                    (by omega) (by unfold maxLen; omega) (by omega) (by simp; omega) (wd.heap.size + 1) (by simp) ?_; intro gg cap1 w7 hown1 hgrow hat hlt1))
            all_goals
              have HO1 : Hid (w7.ownsRow w.heap.size 42 3 (.slice (some ⟨gg, 0, none⟩) (0 + 1) cap1) (gtc U D (j + 1)) (ints (gat U D (j + 1)))) := by
                have e : ints (gat U D (j + 1)) = ints (gat U D j) ++ [.int .i64 X, .int .i64 Y, .int .i64 1] := by rw [HG.out.1]; simp [ints]
                show World.ownsRow _ _ _ _ _ _ _
                rw [e, HG.out.2]; exact hown1
              have HB1 : Hid (Below w.heap.size w w7) := ((HBd.out.alloc hsr _).drew).trans ((Below.refl _ _).grown hgrow (by simp; omega) (fun q hq => HF.out q hq))
              have HK : Hid (KpV (.slice x3 0 y3) wd w7) := fun q hq hne => by
                rw [hgrow.block q (by show q < (World.alloc wd _).heap.size; simp; omega) (fun e => hne e.symm)]
                exact (bnew wd _).block q hq
              have HMv : Hid (Moved (.slice x3 0 y3) (.slice (some ⟨gg, 0, none⟩) (0 + 1) cap1) wd) := fun q hq => by
                cases hq
                rcases hat with hat | hat
                · exact .inl hat
                · right; show wd.heap.size ≤ gg; omega
              have HU41 := hide (owns_side HU4.out HK.out HA4.out.symm)
              have HU51 := hide (owns_side HU5.out HK.out HA5.out.symm)
              have HA41 := hide (HA4.out.symm.moved HMv.out HU4.out).symm
              have HA51 := hide (HA5.out.symm.moved HMv.out HU5.out).symm
              clear hown1 hgrow hat hlt1 HOd HBd HZd HU4 HU5 HA4 HA5 HK HMv HF HI1 hi2 hi3 hi4 t4 t5 SKa HG l4 l5 ne4 ne5
              go_wp2_with fail
              exact ⟨⟨j + 1, by omega, rfl, HO1.out, HU41.out, HU51.out, HA41.out, HA51.out, HB1.out⟩, by simp [intOf]; omega⟩
          · obtain ⟨b3, y3, rfl, hB3, hc3⟩ := own_partsF ho3 hcp
            obtain ⟨c, hc⟩ : ∃ c, gtc U D j = c + 1 := ⟨gtc U D j - 1, by omega⟩
            have s0 := (hc3 (c * 3) (by omega)).1
            have s1 := (hc3 (c * 3 + 1) (by omega)).1
            obtain ⟨s2, s3⟩ := hc3 (c * 3 + 2) (by omega)
            have e0 : (gat U D j).length - 3 = c * 3 := by omega
            have e1 : (gat U D j).length - 2 = c * 3 + 1 := by omega
            have e2 : (gat U D j).length - 1 = c * 3 + 2 := by omega
            have HLb : Hid (∀ p q, (decide ((gat U D j).getD (c * 3) 0 = X) = p) → (decide ((gat U D j).getD (c * 3 + 1) 0 = Y) = q) → lasB (gat U D j) X Y = (p && q)) := fun p q hp hq => by
              unfold lasB
              rw [e0, e1, hp, hq, decide_eq_true (by omega : 0 < (gat U D j).length), Bool.true_and]
            rw [e2] at HT hgu
            rw [hc] at HOd0 hcp HT HFf ho3 ⊢
            have hcl : ((c + 1 : Nat) : Int) - 1 = (c : Int) := by omega
            have hcl2 : (c : Int) < ((c + 1 : Nat) : Int) := by omega
            have hcp' : (0 : Int) < ((c + 1 : Nat) : Int) := by omega
            have hc9 : c + 1 ≤ 65000 := by omega
            have HS := hide (own_setF ho3 (c * 3 + 2) ((gat U D j).getD (c * 3 + 2) 0 + 1))
            have HSb := hide (hb.setCell (p := ⟨b3, c * 3 + 2, none⟩) (show w.heap.size ≤ b3 from hB3) (.int .i64 ((gat U D j).getD (c * 3 + 2) 0 + 1)))
            obtain ⟨E0, hE0⟩ : ∃ E, (gat U D j).getD (c * 3) 0 = E := ⟨_, rfl⟩
            obtain ⟨E1, hE1⟩ : ∃ E, (gat U D j).getD (c * 3 + 1) 0 = E := ⟨_, rfl⟩
            obtain ⟨E2, hE2⟩ : ∃ E, (gat U D j).getD (c * 3 + 2) 0 = E := ⟨_, rfl⟩
            rw [hE0] at s0 HLb
            rw [hE1] at s1 HLb
            rw [hE2] at s2 hgu HT HS HSb
            clear e0 e1 e2 hE0 hE1 hE2 hc3 hgl hb ho3 hc
            by_cases q1 : E0 = X
            · by_cases q2 : E1 = Y
              · have p1 : (E0 == X) = true := by simp [q1]
                have p2 : (E1 == Y) = true := by simp [q2]
                have HG := hide (HT.out (HLb.out true true (decide_eq_true q1) (decide_eq_true q2)))
                have wv : IntKind.i64.wrap (E2 + 1) = E2 + 1 := by rw [IntKind.wrap_i64]; omega
                have HSe : Hid (∀ d, ((wr.drewN d).setCell ⟨b3, c * 3 + 2, none⟩ (.int .i64 (E2 + 1))).ownsRow w.heap.size 42 3 (.slice (some ⟨b3, 0, none⟩) (c + 1) y3) (gtc U D (j + 1)) (ints (gat U D (j + 1)))) := fun d => by
                  rw [HG.out.1, HG.out.2]; exact HS.out
                have HBe : Hid (∀ d, Below w.heap.size w ((wr.drewN d).setCell ⟨b3, c * 3 + 2, none⟩ (.int .i64 (E2 + 1)))) := fun d => (HBd0.out d).setCell (p := ⟨b3, c * 3 + 2, none⟩) hB3 _
                have HK : Hid (∀ d, KpV (.slice (some ⟨b3, 0, none⟩) (c + 1) y3) (wr.drewN d) ((wr.drewN d).setCell ⟨b3, c * 3 + 2, none⟩ (.int .i64 (E2 + 1)))) := fun d => kpV_set _ _ _ _ _ _ _
                have HU41 := hide (fun d => owns_side (HU40.out d) (HK.out d) HA4.out.symm)
                have HU51 := hide (fun d => owns_side (HU50.out d) (HK.out d) HA5.out.symm)
                have s2' : Hid (∀ d, (wr.drewN d).cell? ⟨b3, c * 3 + 2, none⟩ = some (.int .i64 E2) ∧ (wr.drewN d).frozen? ⟨b3, c * 3 + 2, none⟩ = false) := fun d => ⟨s2, s3⟩
                clear q1 q2 HLb HT HFf HS HSb HOd0 HBd0 HU40 HU50 HK HG HI1 hi2 hi3 hi4 T4 T5 L4 L5 HF ne4 ne5 hgu
                go_wp2_with fail
                go_quiet (fail)
                have HSe := hide (HSe.out nq)
                have HBe := hide (HBe.out nq)
                have HU41 := hide (HU41.out nq)
                have HU51 := hide (HU51.out nq)
                obtain ⟨s2, s3⟩ := s2'.out nq
                clear s0 s1 c4 c5
                generalize wr.drewN nq = wd at *
                go_wp2_with fail
                exact ⟨⟨j + 1, by omega, rfl, HSe.out, HU41.out, HU51.out, HA4.out, HA5.out, HBe.out⟩, by simp [intOf]; omega⟩
              · have p1 : (E0 == X) = true := by simp [q1]
                have p2 : (E1 == Y) = false := by simp [q2]
                have HG := hide (HFf.out (HLb.out true false (decide_eq_true q1) (decide_eq_false q2)))
                clear q1 q2 HLb HT HFf HS HSb hgu s2 s3
                go_wp2_with fail
                go_quiet (fail)
                have HOd := hide (HOd0.out nq)
                have HBd := hide (HBd0.out nq)
                have HZd := hide HBd.out.size
                have HU4 := hide (HU40.out nq)
                have HU5 := hide (HU50.out nq)
                have t4 := T4.out nq
                have t5 := T5.out nq
                have l4 := L4.out nq
                have l5 := L5.out nq
                clear HOd0 HBd0 HU40 HU50 T4 T5 L4 L5 c4 c5 s0 s1
                generalize wr.drewN nq = wd at *
                have SKa := hide (And.intro t4 t5)
                have hsr := HZd.out
                go_upto_region 28 with fail
                go_region_held3 (fun w' => w'.cell? ⟨b4, j, none⟩ = some (.int .i64 X) ∧ w'.cell? ⟨b5, j, none⟩ = some (.int .i64 Y))
                  (first
                    | exact SKa.out
                    | go_keep
                    | (go_split_ands
                       refine ⟨?_, ?_⟩
                       · (rw [hgrow.cell_far ⟨b4, j, none⟩ (by simp; omega) ne4]; assumption)
                       · (rw [hgrow.cell_far ⟨b5, j, none⟩ (by simp; omega) ne5]; assumption)))
                  (first
                    | (refine step_append_lies _ (by rfl) _ _ _ (by rfl) w.heap.size 42 ti _ 3 24 Try.underlying26 HI1.out hi2 hi3 hi4 rfl (by omega) (.slice (some ⟨b3, 0, none⟩) (c + 1) y3) (c + 1) (ints (gat U D j)) (by rfl) ((HOd.out.alloc _).drew)
                        ⟨wd.heap.size, 0, none⟩ 1 1 [.int .i64 X, .int .i64 Y, .int .i64 1] (by rfl) (by rfl) (World.news_of_block (cs := #[.int .i64 X, .int .i64 Y, .int .i64 1]) (t := 42) (fr := (0, 0)) (heap_alloc_new wd _)) (by simp [Value.oneCell'])
                        (by omega) (by unfold maxLen; omega) (by omega) (by simp; omega) (wd.heap.size + 1) (by simp) ?_; intro gg cap1 w7 hown1 hgrow hat hlt1))
                all_goals
                  have HO1 : Hid (w7.ownsRow w.heap.size 42 3 (.slice (some ⟨gg, 0, none⟩) ((c + 1) + 1) cap1) (gtc U D (j + 1)) (ints (gat U D (j + 1)))) := by
                    have e : ints (gat U D (j + 1)) = ints (gat U D j) ++ [.int .i64 X, .int .i64 Y, .int .i64 1] := by rw [HG.out.1]; simp [ints]
                    show World.ownsRow _ _ _ _ _ _ _
                    rw [e, HG.out.2]; exact hown1
                  have HB1 : Hid (Below w.heap.size w w7) := ((HBd.out.alloc hsr _).drew).trans ((Below.refl _ _).grown hgrow (by simp; omega) (fun q hq => HF.out q hq))
                  have HK : Hid (KpV (.slice (some ⟨b3, 0, none⟩) (c + 1) y3) wd w7) := fun q hq hne => by
                    rw [hgrow.block q (by show q < (World.alloc wd _).heap.size; simp; omega) (fun e => hne e.symm)]
                    exact (bnew wd _).block q hq
                  have HMv : Hid (Moved (.slice (some ⟨b3, 0, none⟩) (c + 1) y3) (.slice (some ⟨gg, 0, none⟩) ((c + 1) + 1) cap1) wd) := fun q hq => by
                    cases hq
                    rcases hat with hat | hat
                    · exact .inl hat
                    · right; show wd.heap.size ≤ gg; omega
                  have HU41 := hide (owns_side HU4.out HK.out HA4.out.symm)
                  have HU51 := hide (owns_side HU5.out HK.out HA5.out.symm)
                  have HA41 := hide (HA4.out.symm.moved HMv.out HU4.out).symm
                  have HA51 := hide (HA5.out.symm.moved HMv.out HU5.out).symm
                  clear hown1 hgrow hat hlt1 HOd HBd HZd HU4 HU5 HA4 HA5 HK HMv HF HI1 hi2 hi3 hi4 t4 t5 SKa HG l4 l5 ne4 ne5
                  go_wp2_with fail
                  exact ⟨⟨j + 1, by omega, rfl, HO1.out, HU41.out, HU51.out, HA41.out, HA51.out, HB1.out⟩, by simp [intOf]; omega⟩
            · have p1 : (E0 == X) = false := by simp [q1]
              have HG := hide (HFf.out (HLb.out false _ (decide_eq_false q1) rfl))
              clear q1 HLb HT HFf HS HSb hgu s2 s3
              go_wp2_with fail
              go_quiet (fail)
              have HOd := hide (HOd0.out nq)
              have HBd := hide (HBd0.out nq)
              have HZd := hide HBd.out.size
              have HU4 := hide (HU40.out nq)
              have HU5 := hide (HU50.out nq)
              have t4 := T4.out nq
              have t5 := T5.out nq
              have l4 := L4.out nq
              have l5 := L5.out nq
              clear HOd0 HBd0 HU40 HU50 T4 T5 L4 L5 c4 c5 s0 s1
              generalize wr.drewN nq = wd at *
              have SKa := hide (And.intro t4 t5)
              have hsr := HZd.out
              go_upto_region 28 with fail
              go_region_held3 (fun w' => w'.cell? ⟨b4, j, none⟩ = some (.int .i64 X) ∧ w'.cell? ⟨b5, j, none⟩ = some (.int .i64 Y))
                (first
                  | exact SKa.out
                  | go_keep
                  | (go_split_ands
                     refine ⟨?_, ?_⟩
                     · (rw [hgrow.cell_far ⟨b4, j, none⟩ (by simp; omega) ne4]; assumption)
                     · (rw [hgrow.cell_far ⟨b5, j, none⟩ (by simp; omega) ne5]; assumption)))
                (first
                  | (refine step_append_lies _ (by rfl) _ _ _ (by rfl) w.heap.size 42 ti _ 3 24 Try.underlying26 HI1.out hi2 hi3 hi4 rfl (by omega) (.slice (some ⟨b3, 0, none⟩) (c + 1) y3) (c + 1) (ints (gat U D j)) (by rfl) ((HOd.out.alloc _).drew)
                      ⟨wd.heap.size, 0, none⟩ 1 1 [.int .i64 X, .int .i64 Y, .int .i64 1] (by rfl) (by rfl) (World.news_of_block (cs := #[.int .i64 X, .int .i64 Y, .int .i64 1]) (t := 42) (fr := (0, 0)) (heap_alloc_new wd _)) (by simp [Value.oneCell'])
                      (by omega) (by unfold maxLen; omega) (by omega) (by simp; omega) (wd.heap.size + 1) (by simp) ?_; intro gg cap1 w7 hown1 hgrow hat hlt1))
              all_goals
                have HO1 : Hid (w7.ownsRow w.heap.size 42 3 (.slice (some ⟨gg, 0, none⟩) ((c + 1) + 1) cap1) (gtc U D (j + 1)) (ints (gat U D (j + 1)))) := by
                  have e : ints (gat U D (j + 1)) = ints (gat U D j) ++ [.int .i64 X, .int .i64 Y, .int .i64 1] := by rw [HG.out.1]; simp [ints]
                  show World.ownsRow _ _ _ _ _ _ _
                  rw [e, HG.out.2]; exact hown1
                have HB1 : Hid (Below w.heap.size w w7) := ((HBd.out.alloc hsr _).drew).trans ((Below.refl _ _).grown hgrow (by simp; omega) (fun q hq => HF.out q hq))
                have HK : Hid (KpV (.slice (some ⟨b3, 0, none⟩) (c + 1) y3) wd w7) := fun q hq hne => by
                  rw [hgrow.block q (by show q < (World.alloc wd _).heap.size; simp; omega) (fun e => hne e.symm)]
                  exact (bnew wd _).block q hq
                have HMv : Hid (Moved (.slice (some ⟨b3, 0, none⟩) (c + 1) y3) (.slice (some ⟨gg, 0, none⟩) ((c + 1) + 1) cap1) wd) := fun q hq => by
                  cases hq
                  rcases hat with hat | hat
                  · exact .inl hat
                  · right; show wd.heap.size ≤ gg; omega
                have HU41 := hide (owns_side HU4.out HK.out HA4.out.symm)
                have HU51 := hide (owns_side HU5.out HK.out HA5.out.symm)
                have HA41 := hide (HA4.out.symm.moved HMv.out HU4.out).symm
                have HA51 := hide (HA5.out.symm.moved HMv.out HU5.out).symm
                clear hown1 hgrow hat hlt1 HOd HBd HZd HU4 HU5 HA4 HA5 HK HMv HF HI1 hi2 hi3 hi4 t4 t5 SKa HG l4 l5 ne4 ne5
                go_wp2_with fail
                exact ⟨⟨j + 1, by omega, rfl, HO1.out, HU41.out, HU51.out, HA41.out, HA51.out, HB1.out⟩, by simp [intOf]; omega⟩
        · obtain rfl : j = U.length := by omega
          have HR := hide (HE.out _ _ ho3 hb)
          clear HE ho3 h4 h5 ha4 ha5 hb HLl HUb hlen
          go_wp2_with fail
          go_ret
          exact HR.out

end Go.Proofs.Ytfpeobkncileiaa

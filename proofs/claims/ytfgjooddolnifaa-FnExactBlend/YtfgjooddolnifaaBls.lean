/- Blending: the specification. -/
import Derived.Test.YtfgjooddolnifaaBln
namespace Go.Proofs.Ytfgjooddolnifaa
open Ieee Go.RowKit
attribute [local go_sem] run_store_float alloc_drewN setCell_drewN shape?_drewN run_fadd

set_option maxRecDepth 100000 in
set_option maxHeartbeats 2000000 in
theorem specBlend_any (a : Option Addr) (m cap : Nat) (ad : Nat → Option Addr) (ln cp : Nat → Nat) (F : Nat → Nat → Nat) (hm : m ≤ 1048576) (w : World) (h : PxS a m ad ln cp F w) :
    Calls Try.prog 23 #[.slice a m cap] w (LsP (blN m ln) (blN m ln) (blP F m) w) := by
  have HB0 : Hid (Below w.heap.size w (w.alloc (.cells #[] 31))) := bnew _ _
  have HN : Hid (canB m ln = false → ∀ w', Below w.heap.size w w' → LsP (blN m ln) (blN m ln) (blP F m) w (.returned (.slice (some ⟨w.heap.size, 0, none⟩) 0 0)) w') := fun hb w' hw => by
    unfold blN
    rw [hb, if_neg (by simp)]
    exact ⟨_, _, 0, fun _ => 0, rfl, .inl rfl, .inl rfl, hw, fun j hj => absurd hj (Nat.not_lt_zero _)⟩
  by_cases hm0 : m = 0
  · subst hm0
    have HR := hide (HN.out (by unfold canB; rfl))
    clear h HN
    go_enter Try.func23, Try.ntmps23
    go_wp2_with fail
    go_ret
    exact HR.out _ HB0.out
  have hm0' : ((m : Int) == 0) = false := by simp; omega
  by_cases hm32 : 32 < m
  · have hm' : (32 : Int) < (m : Int) := by omega
    have HR := hide (HN.out (by unfold canB inB; simp; omega))
    clear h HN
    go_enter Try.func23, Try.ntmps23
    go_wp2_with fail
    go_ret
    exact HR.out _ HB0.out
  have hm' : ¬ (32 : Int) < (m : Int) := by omega
  obtain ⟨b, off, rfl, h0, -⟩ := h.at (i := 0) (by omega)
  rw [Nat.add_zero] at h0
  have hbl : b < w.heap.size := World.block_lt_of_cell? _ _ h0
  by_cases hl : 4096 < ln 0
  · have hl' : (4096 : Int) < (ln 0 : Int) := by omega
    have HR := hide (HN.out (by unfold canB; simp; omega))
    clear h HN
    go_enter Try.func23, Try.ntmps23
    go_wp2_with fail
    go_ret
    exact HR.out _ HB0.out
  have hl' : ¬ (4096 : Int) < (ln 0 : Int) := by omega
  have HS := hide h
  clear h
  go_enter Try.func23, Try.ntmps23
  go_wp2_with fail
  go_loopw [4] (fun i wr => ∃ k : Nat, ∃ d : Nat, k ≤ m ∧ i = .int .i64 k ∧ allG (fun i => decide (ln i = ln 0)) k = true ∧ wr = (w.alloc (.cells #[] 31)).drewN d) (fun i _ => m - (intOf i).toNat)
  case atStart => exact ⟨0, 0, by omega, rfl, rfl, rfl⟩
  case round =>
    obtain ⟨k, d, hk, rfl, ha, rfl⟩ := hrel
    by_cases hlt : k < m
    · obtain ⟨_, _, e, hc, -⟩ := HS.out.at hlt
      cases e
      by_cases he : ln k = ln 0
      · have HA : Hid (allG (fun i => decide (ln i = ln 0)) (k + 1) = true) := by
          show _ = _
          simp only [allG, ha, he, decide_true, Bool.and_self]
        have hne : ((ln k : Int) != (ln 0 : Int)) = false := by simp [he]
        clear HS ha he HN
        go_wp2
        go_quiet (fail)
        go_wp2
        exact ⟨⟨k + 1, _, by omega, rfl, HA.out, rfl⟩, by simp [intOf]; omega⟩
      · have hA : allG (fun i => decide (ln i = ln 0)) m = false := allG_no k hlt (by simp [he])
        have hne : ((ln k : Int) != (ln 0 : Int)) = true := by simp; omega
        have HR := hide (HN.out (by unfold canB; rw [hA]; simp))
        clear HS ha he hA HN
        go_wp2
        go_quiet (fail)
        go_wp2
        go_ret
        exact HR.out _ (below_drewN (below_drewN HB0.out _) _)
    · obtain rfl : k = m := by omega
      have hcan : canB k ln = true := by
        unfold canB inB
        rw [ha]
        simp
        omega
      have hbn : blN k ln = ln 0 := by
        unfold blN
        rw [hcan, if_pos rfl]
      have HBN := hide hbn
      clear hbn
      have HL : Hid (∀ i, i < k → ln i = ln 0) := fun i hi => of_decide_eq_true (allG_at ha i hi)
      have hn : ln 0 ≤ 4096 := by omega
      have HO0 := hide (ownsRow_below' (World.ownsRow_lit (e := 31) (size := 1) w #[] 0 (Nat.le_refl _) (by unfold maxLen; omega) rfl) (below_drewN (Below.refl _ _) d))
      have HB1 := hide (below_drewN HB0.out d)
      generalize hgn : ln 0 = n at *
      clear hgn hcan ha HN HB0 hl hl'
      go_wp2_with fail
      go_loopw [3, 5, 6, 7] (fun v i _ _ wr => ∃ (q : Nat) (L : List Nat), q ≤ n ∧ i = .int .i64 q ∧ L.length = q ∧ Each (blP F k) L ∧ wr.ownsRow w.heap.size 31 1 v q (fls L) ∧ Below w.heap.size w wr ∧ w.heap.size < wr.heap.size) (fun _ i _ _ _ => n - (intOf i).toNat)
      case atStart => exact ⟨0, [], by omega, rfl, rfl, Each.nil _, HO0.out, HB1.out, by simp⟩
      case round =>
        obtain ⟨q, L, hq, rfl, hL, hE, ho, hb, hs⟩ := hrel
        have h00 := cell_kept hb h0
        by_cases hlt : q < n
        · have HO := hide ho
          have HB := hide hb
          have HSz := hide hs
          have HE := hide hE
          have HLn := hide hL
          have HK : Hid (q ≤ 1048576) := by show _ ≤ _; omega
          clear ho hb hs hE hL HO0 HB1
          go_wp2_with fail
          go_loopw [6, 7] (fun s i wq => ∃ (p z : Nat), p ≤ k ∧ i = .int .i64 p ∧ s = .float .f64 z ∧ same z (blF F p q) ∧ Below wr.heap.size wr wq) (fun _ i _ => k - (intOf i).toNat)
          case atStart => exact ⟨0, 0, by omega, rfl, rfl, same_rfl _, Below.refl _ _⟩
          case round =>
            obtain ⟨p, z, hp, rfl, rfl, hz, hb2⟩ := hrel
            by_cases hpk : p < k
            · obtain ⟨_, _, e, hc, -⟩ := HS.out.at hpk
              cases e
              have hck := cell_kept hb2 (cell_kept HB.out hc)
              have hln : ln p = n := HL.out p hpk
              have hx := HS.out.2 p hpk
              rw [hln] at hck hx
              obtain ⟨b', off', he, hbl', hc'⟩ := ((hx.below HB.out).below hb2).at (by omega)
              rw [he] at hck
              have z1 : wr.cell? ⟨b', off' + q * 2, none⟩ = some (.float .f64 (F p (q * 2))) := hc' (q * 2) (by omega)
              have z2 : wr.cell? ⟨b', off' + q * 2 + 1, none⟩ = some (.float .f64 (F p (q * 2 + 1))) := hc' (q * 2 + 1) (by omega)
              have HZ := hide hz
              have HB2 := hide hb2
              clear hz hb2 hc hc' hx he hln HO HB HSz HE HLn
              go_wp2_with fail
              refine (size_spec _ _ _).mono ?_
              rintro e wA ⟨⟨r, rfl, hr⟩, hbA⟩
              have HB3 := hide (bnext HB2.out (Nat.le_refl _) hbA)
              have HZ3 := hide ((fval_res .add z r wA).cop aAdd HZ.out (isSize_csz hr))
              clear hr hbA HB2 HZ z1 z2 hck hbl'
              go_wp2_with fail
              exact ⟨⟨p + 1, _, by omega, rfl, rfl, HZ3.out, below_drewN HB3.out _⟩, by simp [intOf]; omega⟩
            · obtain rfl : p = k := by omega
              have HZ := hide hz
              have HO2 := hide (ownsRow_below' HO.out hb2)
              have HB2 := hide (bnext HB.out (Nat.le_refl _) hb2)
              have HS2 : Hid (w.heap.size < wr.heap.size) := Nat.lt_of_lt_of_le HSz.out hb2.size
              have HE1 : Hid (Each (blP F p) (L ++ [z])) := HE.out.snoc (by rw [HLn.out]; exact hz)
              have HL1 : Hid ((L ++ [z]).length = q + 1) := by
                show _ = _
                rw [List.length_append, HLn.out]; rfl
              clear hz hb2 HO HB HSz HE HLn HZ
              go_wp2_with (refine growF1 _ rfl _ _ rfl w.heap.size _ q L rfl w HO2.out HB2.out (Nat.le_of_lt HS2.out) z rfl HK.out ?_)
              intro v' w' ho' hb' hs'
              have HO' := hide ho'
              have HB' := hide hb'
              have HS' : Hid (w.heap.size < w'.heap.size) := Nat.lt_trans HS2.out hs'
              clear HO2 HB2 HS2 ho' hb' hs'
              go_wp2_with fail
              exact ⟨⟨q + 1, L ++ [z], by omega, rfl, HL1.out, HE1.out, HO'.out, HB'.out, HS'.out⟩, by simp [intOf]; omega⟩
        · obtain rfl : q = n := by omega
          clear HS HL HO0 HB1
          go_wp2
          go_ret
          obtain ⟨a', cap', b', rfl, ow, hB⟩ := owv_of ho
          rw [Nat.mul_one] at ow hB
          rw [HBN.out]
          exact ⟨a', cap', b', _, rfl, ow, hB, hb, fun j hj => hE j (by omega)⟩

end Go.Proofs.Ytfgjooddolnifaa

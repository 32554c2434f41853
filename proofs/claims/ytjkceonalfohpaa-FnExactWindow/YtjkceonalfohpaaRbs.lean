/- Pixels of runs: the specification. -/
import Derived.Test.YtjkceonalfohpaaRbi
namespace Go.Proofs.Ytjkceonalfohpaa
open Go.RowKit

/-- the pixels of runs are answered, if they are runs -/
def BtR (n : Int) (m : Nat) (r : Nat → Int) (w : World) (e : Ending) (w' : World) : Prop :=
  ∃ v, e = .returned (.tuple #[v, .bool (runB n m r)]) ∧ Below w.heap.size w w' ∧ (runB n m r = true → ∃ a cap b, v = .slice a n.toNat cap ∧ Ow a b n.toNat (rbit r m) w' ∧ w.heap.size ≤ b)
theorem BtR.no {n : Int} {m : Nat} {r : Nat → Int} {w w' : World} (h : runB n m r = false) (v : Value) (hb : Below w.heap.size w w') : BtR n m r w (.returned (.tuple #[v, .bool false])) w' :=
  ⟨v, by rw [h], hb, fun e => by rw [h] at e; cases e⟩

set_option maxRecDepth 100000 in
set_option maxHeartbeats 4000000 in
theorem l7Bits_any (n : Int) (a : Option Addr) (m cap : Nat) (r : Nat → Int) (hl : m ≤ 1048576) (h0 : 1 ≤ n) (hn : n ≤ 1000000) (w : World) (h : Px a m r w) :
    Calls Try.prog 107 #[.int .i64 n, .slice a m cap] w (BtR n m r w) := by
  have HP := hide h
  have HB0 := hide (bnew w (.cells #[] 2))
  obtain ⟨Q, hQ⟩ : ∃ Q, Q = BtR n m r w := ⟨_, rfl⟩
  rw [← hQ]
  have HQn : Hid (runB n m r = false → ∀ v w', Below w.heap.size w w' → Q (.returned (.tuple #[v, .bool false])) w') := fun e v w' hb => by rw [hQ]; exact .no e v hb
  have HQ : Hid (Q = BtR n m r w) := hQ
  clear h hQ
  by_cases hm0 : m = 0
  · subst hm0
    have HF := hide (HQn.out (runB_none h0))
    clear HQn HQ
    go_enter Try.func107, Try.ntmps107
    go_wp2_with fail
    exact HF.out _ _ HB0.out
  by_cases hm1 : n + 1 < (m : Int)
  · have HF := hide (HQn.out (runB_long (by omega) hm1))
    clear HQn HQ
    go_enter Try.func107, Try.ntmps107
    go_wp2_with fail
    exact HF.out _ _ HB0.out
  go_enter Try.func107, Try.ntmps107
  go_wp2_with fail
  go_loopw [6, 7, 8] (fun v i _ wr => ∃ k : Nat, k ≤ m ∧ i = .int .i64 k ∧ roks r n k = true ∧ wr.ownsRow w.heap.size 2 1 v (rsum r k).toNat (ints (fl (rbit r k) (rsum r k).toNat)) ∧ Below w.heap.size w wr) (fun _ i _ _ => m - (intOf i).toNat)
  case atStart => exact ⟨0, by omega, rfl, rfl, World.ownsRow_lit w #[] 0 (Nat.le_refl _) (by unfold maxLen; omega) rfl, HB0.out⟩
  case round =>
    obtain ⟨k, hk, rfl, ha, ho, hb⟩ := hrel
    clear HB0
    have hk1 := roks_bd (by omega) ha
    by_cases hlt : k < m
    · obtain ⟨b, off, rfl, hz⟩ := (HP.out.below hb).at hlt
      rw [fl_rbit hk1.1] at ho
      obtain ⟨S, hS⟩ : ∃ S : Nat, rsum r k = S := ⟨(rsum r k).toNat, by omega⟩
      have hS1 : (S : Int) ≤ n := by omega
      have hS2 := hk1.2.2
      obtain ⟨xr, hxr⟩ : ∃ xr, xr = r k := ⟨_, rfl⟩
      rw [hS, Int.toNat_natCast] at ho
      rw [hS] at hS2
      rw [← hxr] at hz
      obtain ⟨s, cp, bo, rfl, -, -⟩ := ow_fl ho
      cases hi : rok r n k
      · have HF := hide (HQn.out (runB_no hi hlt))
        have hi2 : ¬ (0 ≤ xr ∧ (k = 0 ∨ xr ≠ 0) ∧ xr ≤ n - S) := fun e => by
          rw [hxr, ← hS] at e
          have := rok_iff.2 e
          rw [hi] at this; cases this
        have HB := hide (bnext hb (Nat.le_refl _) (bnew wr (.cells #[] 2)))
        clear HQn HQ HP ho hb ha hi hk1 hS hxr hS2
        by_cases e1 : xr < 0
        · clear hi2
          go_wp2_with fail
          exact HF.out _ _ HB.out
        by_cases e2 : k = 0
        · subst e2
          rw [Nat.add_zero] at hz
          have e3 : n - S < xr := by omega
          clear hi2
          go_wp2_with fail
          exact HF.out _ _ HB.out
        by_cases e3 : xr = 0
        · subst e3
          clear hi2
          go_wp2_with fail
          exact HF.out _ _ HB.out
        · have e4 : n - S < xr := by omega
          have e5 : (xr == 0) = false := by simpa using e3
          clear hi2 e3
          go_wp2_with fail
          exact HF.out _ _ HB.out
      · have hi2 := rok_iff.1 hi
        rw [← hxr, hS] at hi2
        obtain ⟨R, rfl⟩ : ∃ R : Nat, xr = R := ⟨xr.toNat, by omega⟩
        have HS1 : Hid ((rsum r (k + 1)).toNat = S + R) := by show (rsum r k + r k).toNat = _; omega
        have HV : Hid (∀ t, ((k % 2 : Nat) : Int) = rbit r (k + 1) (S + t)) := fun t => (rbit_high (by omega)).symm
        have HA : Hid (roks r n (k + 1) = true) := by show (_ && _) = true; rw [ha, hi]; rfl
        have HSR : Hid (S + R ≤ 1000000) := by show _ ≤ _; omega
        have hR2 : R ≤ 1000000 := by omega
        have hR3 : ¬ (n - S < (R : Int)) := by omega
        have HO := hide ho
        have HB := hide hb
        have hmod : (k : Int).tmod 2 = ((k % 2 : Nat) : Int) := by rw [Int.tmod_eq_emod_of_nonneg (by omega)]; omega
        have e5 : k = 0 ∨ (0 < k ∧ ((R : Int) == 0) = false) := by
          rcases hi2.2.1 with h | h
          · exact .inl h
          · rcases Nat.eq_zero_or_pos k with h' | h'
            · exact .inl h'
            · exact .inr ⟨h', by simpa using h⟩
        clear ho hb ha hi hi2 hk1 hS hxr hS2 HP HQn
        rcases e5 with e5 | ⟨e5, e6⟩
        · subst e5
          rw [Nat.add_zero] at hz
          go_wp2_with fail
          go_loopw [6, 8] (fun v i wr => ∃ t : Nat, t ≤ R ∧ i = .int .i64 ((R : Int) - t) ∧ wr.ownsRow w.heap.size 2 1 v (S + t) (ints (fl (rbit r (0 + 1)) (S + t))) ∧ Below w.heap.size w wr) (fun _ i _ => (intOf i).toNat)
          case atStart => exact ⟨0, by omega, by simp, HO.out, HB.out⟩
          case round =>
            obtain ⟨t, ht, rfl, ho, hb⟩ := hrel
            clear HO HB hz
            obtain ⟨D, hD⟩ : ∃ D : Int, D = (R : Int) - t := ⟨_, rfl⟩
            by_cases htR : t < R
            · have HO := hide ho
              have HB := hide hb
              have HS := hide hb.size
              have HZ := hide (HV.out t)
              have HL : Hid (S + t ≤ 1048576) := by have := HSR.out; show _ ≤ _; omega
              have HD : Hid (D - 1 = (R : Int) - ((t + 1 : Nat) : Int)) := by show _ = _; omega
              have HD2 : Hid ((D - 1).toNat < D.toNat) := by show _ < _; omega
              have hD1 : 0 < D := by omega
              have hD3 : D ≤ 1000000 := by omega
              rw [← hD]
              clear ho hb HV HSR hD
              go_wp2_with (refine grow1 _ rfl _ _ rfl w.heap.size _ (S + t) (rbit r (0 + 1)) rfl w HO.out HB.out HS.out (0 : Int) HZ.out rfl HL.out ?_)
              intro v' w' ho' hb' hs'
              have HO' := hide ho'
              have HB' := hide hb'
              clear HO HB HS ho' hb' hs' HZ HL
              go_wp2_with fail
              exact ⟨⟨t + 1, by omega, by rw [HD.out], HO'.out, HB'.out⟩, by simp only [intOf]; exact HD2.out⟩
            · obtain rfl : t = R := by omega
              have hD1 : D = 0 := by omega
              rw [← hD, hD1]
              have HO := hide ho
              have HB := hide hb
              clear ho hb HV HSR hD hD1
              go_wp2_with fail
              exact ⟨⟨0 + 1, by omega, rfl, HA.out, by rw [HS1.out]; exact HO.out, HB.out⟩, by simp [intOf]; omega⟩
        · go_wp2_with fail
          go_loopw [6, 8] (fun v i wr => ∃ t : Nat, t ≤ R ∧ i = .int .i64 ((R : Int) - t) ∧ wr.ownsRow w.heap.size 2 1 v (S + t) (ints (fl (rbit r (k + 1)) (S + t))) ∧ Below w.heap.size w wr) (fun _ i _ => (intOf i).toNat)
          case atStart => exact ⟨0, by omega, by simp, HO.out, HB.out⟩
          case round =>
            obtain ⟨t, ht, rfl, ho, hb⟩ := hrel
            clear HO HB hz
            obtain ⟨D, hD⟩ : ∃ D : Int, D = (R : Int) - t := ⟨_, rfl⟩
            by_cases htR : t < R
            · have HO := hide ho
              have HB := hide hb
              have HS := hide hb.size
              have HZ := hide (HV.out t)
              have HL : Hid (S + t ≤ 1048576) := by have := HSR.out; show _ ≤ _; omega
              have HD : Hid (D - 1 = (R : Int) - ((t + 1 : Nat) : Int)) := by show _ = _; omega
              have HD2 : Hid ((D - 1).toNat < D.toNat) := by show _ < _; omega
              have hD1 : 0 < D := by omega
              have hD3 : D ≤ 1000000 := by omega
              rw [← hD]
              clear ho hb HV HSR hD
              have hm2 : k % 2 ≤ 1 := by omega
              generalize k % 2 = P at *
              go_wp2_with (refine grow1 _ rfl _ _ rfl w.heap.size _ (S + t) (rbit r (k + 1)) rfl w HO.out HB.out HS.out (P : Int) HZ.out rfl HL.out ?_)
              intro v' w' ho' hb' hs'
              have HO' := hide ho'
              have HB' := hide hb'
              clear HO HB HS ho' hb' hs' HZ HL
              go_wp2_with fail
              exact ⟨⟨t + 1, by omega, by rw [HD.out], HO'.out, HB'.out⟩, by simp only [intOf]; exact HD2.out⟩
            · obtain rfl : t = R := by omega
              have hD1 : D = 0 := by omega
              rw [← hD, hD1]
              have HO := hide ho
              have HB := hide hb
              clear ho hb HV HSR hD hD1
              go_wp2_with fail
              exact ⟨⟨k + 1, by omega, rfl, HA.out, by rw [HS1.out]; exact HO.out, HB.out⟩, by simp [intOf]; omega⟩
    · obtain rfl : k = m := by omega
      have hE : runB n k r = (((rsum r k).toNat : Int) == n) := by
        unfold runB
        rw [ha]
        by_cases e : rsum r k = n
        · have : ((rsum r k).toNat : Int) = n := by omega
          rw [decide_eq_true e, beq_iff_eq.2 this]; rfl
        · have : ¬ (((rsum r k).toNat : Int) = n) := by omega
          rw [decide_eq_false e, beq_eq_false_iff_ne.2 this]; rfl
      have HE := hide hE
      obtain ⟨a', cap', b', rfl, ow, hB⟩ := ow_fl ho
      have HO := hide ow
      have HB := hide hb
      have HBB := hide hB
      clear ho hb ow hB hE ha hk1 HQn HP
      generalize (rsum r k).toNat = RS at *
      go_wp2_with fail
      show Q (.returned (.tuple #[.slice a' RS cap', .bool ((RS : Int) == n)])) _
      rw [HQ.out]
      refine ⟨_, by rw [HE.out], HB.out, fun e => ?_⟩
      rw [HE.out] at e
      have e' : (RS : Int) = n := by simpa using e
      have e2 : n.toNat = RS := by omega
      rw [e2]
      exact ⟨a', cap', b', rfl, HO.out, HBB.out.resolve_left (by omega)⟩

end Go.Proofs.Ytjkceonalfohpaa

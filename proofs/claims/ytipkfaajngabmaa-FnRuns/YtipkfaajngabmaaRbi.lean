/- Pixels of runs: the specification and the program. -/
import Derived.Test.YtipkfaajngabmaaRno
import Derived.Test.YtipkfaajngabmaaHom
import Derived.Lib.MinMax
namespace Go.Proofs.Ytipkfaajngabmaa
open Go.RowKit

set_option maxRecDepth 100000 in
set_option maxHeartbeats 1000000 in
theorem areRuns_any (a : Option Addr) (m cap : Nat) (r : Nat → Int) (hl : m ≤ 1048576) (n : Int) (h0 : 0 ≤ n) (hn : n ≤ 1048576) (w : World) (h : Px a m r w) :
    Calls Try.prog 28 #[.slice a m cap, .int .i64 n] w fun e w' => e = .returned (.bool (runB n m r)) ∧ w' = w := by
  have HP := hide h
  clear h
  go_enter Try.func28, Try.ntmps28
  go_wp2_with fail
  go_loop [5, 6, 7, 8, 12] (fun l _ _ _ i => ∃ k : Nat, k ≤ m ∧ i = .int .i64 k ∧ l = .int .i64 (n - rsum r k) ∧ roks r n k = true) (fun _ _ _ _ i => m - (intOf i).toNat)
  case atStart => exact ⟨0, by omega, rfl, by simp [rsum], rfl⟩
  case round =>
    obtain ⟨k, hk, rfl, rfl, ha⟩ := hrel
    have hbd := roks_bd h0 ha
    by_cases hlt : k < m
    · obtain ⟨b, off, rfl, hz⟩ := HP.out.at hlt
      clear HP
      obtain ⟨q, hq⟩ : ∃ q : Int, q = if k = 0 then 0 else 1 := ⟨_, rfl⟩
      have hmin : min (k : Int) 1 = q := by
        rw [hq]
        split <;> omega
      have hc := within_any (r k) q (n - rsum r k)
      have hr : rok r n k = inB (r k) q (n - rsum r k) := by unfold rok; rw [hq]
      rw [← hr] at hc
      clear hr hq
      cases hi : rok r n k
      · have HF := hide (runB_no hi hlt)
        rw [hi] at hc
        clear hi ha hbd
        generalize n - rsum r k = L at *
        generalize r k = x at *
        go_wp2_with fail
        refine (hc _).mono ?_
        rintro e w' ⟨rfl, rfl⟩
        go_wp2_with fail
        go_ret
        exact ⟨by rw [HF.out]; rfl, rfl⟩
      · have HF : Hid (roks r n (k + 1) = true) := by show (_ && _) = true; rw [ha, hi]; rfl
        have hb := rok_iff.1 hi
        obtain ⟨Y, hY⟩ : ∃ Y, Y = n - rsum r k - r k := ⟨_, rfl⟩
        have HL : Hid (n - rsum r (k + 1) = Y) := by show n - (rsum r k + r k) = _; omega
        have wL : IntKind.i64.wrap (n - rsum r k - r k) = Y := by rw [IntKind.wrap_i64]; omega
        rw [hi] at hc
        clear hi ha hbd hb hY
        generalize n - rsum r k = L at *
        generalize r k = x at *
        go_wp2_with fail
        refine (hc _).mono ?_
        rintro e w' ⟨rfl, rfl⟩
        go_wp2_with fail
        exact ⟨⟨k + 1, by omega, rfl, by rw [HL.out], HF.out⟩, by simp [intOf]; omega⟩
    · obtain rfl : k = m := by omega
      have hE : runB n k r = (n - rsum r k == 0) := by
        unfold runB
        rw [ha]
        by_cases e : rsum r k = n
        · simp [e]
        · have : ¬ (n - rsum r k = 0) := by omega
          simp [e, this]
      have HE := hide hE
      clear HP hE ha hbd
      generalize n - rsum r k = L at *
      go_wp2
      go_ret
      exact ⟨by rw [HE.out]; rfl, rfl⟩

set_option maxRecDepth 100000 in
set_option maxHeartbeats 1000000 in
theorem pixelsOfRuns_any (a : Option Addr) (m cap : Nat) (r : Nat → Int) (hl : m ≤ 1048576) (n : Int) (h0 : 0 ≤ n) (hn : n ≤ 1000000) (hr : roks r n m = true) (w : World) (h : Px a m r w) :
    Calls Try.prog 29 #[.slice a m cap] w (LsR (rsum r m).toNat (rbit r m) w) := by
  have HP := hide h
  have HR := hide hr
  clear h hr
  go_enter Try.func29, Try.ntmps29
  go_wp2_with fail
  go_loopw [3, 4, 5, 8] (fun v _ _ i wr => ∃ k : Nat, k ≤ m ∧ i = .int .i64 k ∧ wr.ownsRow w.heap.size 2 1 v (rsum r k).toNat (ints (fl (rbit r k) (rsum r k).toNat)) ∧ Below w.heap.size w wr) (fun _ _ _ i _ => m - (intOf i).toNat)
  case atStart => exact ⟨0, by omega, rfl, World.ownsRow_nil _ _ _ _, Below.refl _ _⟩
  case round =>
    obtain ⟨k, hk, rfl, ho, hb⟩ := hrel
    by_cases hlt : k < m
    · obtain ⟨b, off, rfl, hz⟩ := (HP.out.below hb).at hlt
      have hk1 := roks_bd h0 (roks_le HR.out hk)
      have hk2 := rok_iff.1 (roks_at HR.out hlt)
      rw [fl_rbit hk1.1] at ho
      obtain ⟨S, hS⟩ : ∃ S : Nat, rsum r k = S := ⟨(rsum r k).toNat, by omega⟩
      obtain ⟨R, hRn⟩ : ∃ R : Nat, r k = R := ⟨(r k).toNat, by omega⟩
      have HS1 : Hid ((rsum r (k + 1)).toNat = S + R) := by show (rsum r k + r k).toNat = _; omega
      have HV : Hid (∀ t, ((k % 2 : Nat) : Int) = rbit r (k + 1) (S + t)) := fun t => (rbit_high (by omega)).symm
      rw [hS, Int.toNat_natCast] at ho
      rw [hRn] at hz
      have HSR : Hid (S + R ≤ 1000000) := by show _ ≤ _; omega
      have hR2 : R ≤ 1000000 := by omega
      have HO := hide ho
      have HB := hide hb
      have hmod : (k : Int).tmod 2 = ((k % 2 : Nat) : Int) := by rw [Int.tmod_eq_emod_of_nonneg (by omega)]; omega
      clear ho hb hk1 hk2 hS hRn HP HR
      go_wp2_with fail
      go_loopw [3, 14] (fun v i wr => ∃ t : Nat, t ≤ R ∧ i = .int .i64 t ∧ wr.ownsRow w.heap.size 2 1 v (S + t) (ints (fl (rbit r (k + 1)) (S + t))) ∧ Below w.heap.size w wr) (fun _ i _ => R - (intOf i).toNat)
      case atStart => exact ⟨0, by omega, rfl, HO.out, HB.out⟩
      case round =>
        obtain ⟨t, ht, rfl, ho, hb⟩ := hrel
        clear HO HB hz
        by_cases htR : t < R
        · have HO := hide ho
          have HB := hide hb
          have HS := hide hb.size
          have HZ := hide (HV.out t)
          have HL : Hid (S + t ≤ 1048576) := by have := HSR.out; show _ ≤ _; omega
          have hm2 : k % 2 ≤ 1 := by omega
          clear ho hb HV HSR
          generalize k % 2 = P at *
          go_wp2_with (refine grow1 _ rfl _ _ rfl w.heap.size _ (S + t) (rbit r (k + 1)) rfl w HO.out HB.out HS.out (P : Int) HZ.out rfl HL.out ?_)
          intro v' w' ho' hb' hs'
          have HO' := hide ho'
          have HB' := hide hb'
          clear HO HB HS ho' hb' hs' HZ HL
          go_wp2_with fail
          exact ⟨⟨t + 1, by omega, rfl, HO'.out, HB'.out⟩, by simp [intOf]; omega⟩
        · obtain rfl : t = R := by omega
          have HO := hide ho
          have HB := hide hb
          clear ho hb HV HSR
          go_wp2_with fail
          exact ⟨⟨k + 1, by omega, rfl, by rw [HS1.out]; exact HO.out, HB.out⟩, by simp [intOf]; omega⟩
    · obtain rfl : k = m := by omega
      clear HP HR
      generalize (rsum r k).toNat = RS at *
      go_wp2
      go_ret
      obtain ⟨a', cap', b', rfl, ow, hB⟩ := ow_fl ho
      exact ⟨a', cap', b', rfl, ow, hB, hb⟩

end Go.Proofs.Ytipkfaajngabmaa

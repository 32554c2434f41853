/- The program's reader: rice's bits, the walk. -/
import Derived.Test.YtebcclmilplfcaaXpq
import Derived.Deep.RegionHeld
import Derived.Deep.RegionHeld3
namespace Go.Proofs.Ytebcclmilplfcaa
open Go.RowKit

/-- so many bits are taken: the number, where a number holds them -/
theorem takeX_any (p : Nat) (a : Option Addr) (N cap o : Nat) (g : Nat → Int) (hN : N ≤ 1048576) (hg : ∀ k, k < N → 0 ≤ g k ∧ g k ≤ 255) (ho : o ≤ 8 * N) (m : Nat) (hm : m ≤ 255) (w : World) (hx : Bx p [.slice a N cap, .int .i64 o] w) (hP : PxU a N g w) (hap : N ≠ 0 → ∀ b off, a = some ⟨b, off, none⟩ → b ≠ p) :
    Calls Try.prog 54 #[.pointer (some ⟨p, 0, none⟩), .int .i64 m] w fun e w' => ∃ x, e = .returned (.int .i64 x) ∧ (m ≤ 62 → x = uvE g N o m) ∧ KpS (· = p) w w' ∧ Bx p [.slice a N cap, .int .i64 (min (o + m) (8 * N) : Nat)] w' := by
  by_cases h : m ≤ 62
  · refine (take_any p a N cap o g hN hg ho m h w hx hP hap).mono ?_
    rintro e w' ⟨rfl, h1, h2⟩
    exact ⟨_, rfl, fun _ => rfl, h1, h2⟩
  · refine (takeW_any p a N cap o g hN hg ho m hm w hx hP hap).mono ?_
    rintro e w' ⟨x, rfl, h1, h2⟩
    exact ⟨x, rfl, fun h9 => absurd h9 h, h1, h2⟩

set_option maxRecDepth 100000 in
theorem takeRice1_fn (ar : Array Value) (w : World) : Sem.run Try.prog (callFunc 57 ar) w = .ok (.enter 57 ar) w := rfl

set_option maxRecDepth 100000 in
set_option maxHeartbeats 2000000 in
theorem takeRice1_any (p q1 q2 : Nat) (a : Option Addr) (N cap o : Nat) (g : Nat → Int) (hN : N ≤ 1048576) (hg : ∀ k, k < N → 0 ≤ g k ∧ g k ≤ 255) (ho : o ≤ 8 * N) (K : Nat) (hK : K ≤ 255) (w : World) (hx : Bx p [.slice a N cap, .int .i64 o] w) (hP : PxU a N g w) (hap : N ≠ 0 → ∀ b off, a = some ⟨b, off, none⟩ → ¬ b = p)
    (hq1 : ¬ q1 = p) (hq2 : ¬ q2 = p) (hz1 : q1 < w.heap.size) (hz2 : q2 < w.heap.size) (h1 : Bx q1 [.pointer (some ⟨p, 0, none⟩)] w) (h2 : Bx q2 [.int .i64 K] w) :
    Calls Try.prog 57 #[.pointer (some ⟨q1, 0, none⟩), .pointer (some ⟨q2, 0, none⟩)] w fun e w' => ∃ x o', e = .returned (.int .i64 x) ∧ KpS (· = p) w w' ∧ Bx p [.slice a N cap, .int .i64 (o' : Nat)] w' ∧ RcS g N K o x o' := by
  have HP := hide hP
  have HG := hide hg
  have HA := hide hap
  have HX := hide hx
  have H1 := hide h1
  have H2 := hide h2
  have HQ1 := hide hq1
  have HQ2 := hide hq2
  have HZ1 := hide hz1
  have HZ2 := hide hz2
  clear hP hg hap hx h1 h2 hq1 hq2 hz1 hz2
  go_enter Try.func57, Try.ntmps57
  go_wp2_with fail
  go_loopw [3] (fun v wr => ∃ h : Nat, v = .int .i64 h ∧ o + h ≤ 8 * N ∧ Hid (∀ k, k < h → bitE g N (o + k) = 1) ∧ KpS (· = p) w wr ∧ Bx p [.slice a N cap, .int .i64 (o + h : Nat)] wr) (fun v _ => 8 * N - (intOf v).toNat)
  case atStart => exact ⟨0, rfl, by omega, hide fun k hk => absurd hk (Nat.not_lt_zero _), KpS.refl _ _, HX.out⟩
  case round =>
    obtain ⟨h, rfl, hoh, HO, hk, hb⟩ := hrel
    clear HX
    have i1 := ((hk.bx HQ1.out HZ1.out H1.out) 0 _ rfl).1
    have c := take_any p a N cap (o + h) g hN HG.out hoh 1 (by omega) wr hb (hk.pxU (fun h9 b off h => HA.out h9 b off h) HP.out) HA.out
    have e1 : ((1 : Nat) : Int) = 1 := rfl
    rw [e1] at c
    have hu : uvE g N (o + h) 1 = bitE g N (o + h) := by unfold uvE; simp [sm]
    rw [hu] at c
    have HK := hide hk
    clear hk hb hu
    by_cases hbit : bitE g N (o + h) = 1
    · have hlt : o + h < 8 * N := by
        by_cases e : o + h < 8 * N
        · exact e
        · unfold bitE at hbit; rw [if_neg e] at hbit; omega
      have HO2 : Hid (∀ k, k < h + 1 → bitE g N (o + k) = 1) := fun k hk => by
        by_cases e : k = h
        · rw [e]; exact hbit
        · exact HO.out k (by omega)
      rw [hbit, show min (o + h + 1) (8 * N) = o + (h + 1) by omega] at c
      clear HO hbit
      go_wp2_with fail
      refine c.mono ?_
      rintro e w1 ⟨rfl, hk1, hb1⟩
      have HK1 := hide (HK.out.trans hk1)
      have HB1 := hide hb1
      clear hk1 hb1 c HK i1
      go_wp2_with fail
      go_roundw
      case rel => exact ⟨h + 1, by go_num, by omega, HO2, HK1.out, HB1.out⟩
      case measure => simp [intOf]; omega
    · have hb0 : bitE g N (o + h) = 0 := by rcases bitE_01 g N (o + h) with e | e; exact e; exact absurd e hbit
      rw [hb0] at c
      have HB0 := hide hb0
      clear hbit hb0
      go_wp2_with fail
      refine c.mono ?_
      rintro e w1 ⟨rfl, hk1, hb1⟩
      have HK1 := hide (HK.out.trans hk1)
      have HC2 : Hid (∀ wz, wz.heap = w1.heap → KpS (· = p) w wz → Calls Try.prog 54 #[.pointer (some ⟨p, 0, none⟩), .int .i64 K] wz fun e w' => ∃ x, e = .returned (.int .i64 x) ∧ (w'.cell? ⟨q1, 0, none⟩ = some (.pointer (some ⟨p, 0, none⟩)) ∧ w'.cell? ⟨q2, 0, none⟩ = some (.int .i64 K)) ∧ Hid ((K ≤ 62 → x = uvE g N (min (o + h + 1) (8 * N)) K) ∧ KpS (· = p) w w' ∧ Bx p [.slice a N cap, .int .i64 (min (min (o + h + 1) (8 * N) + K) (8 * N) : Nat)] w')) := fun wz hz hkz => by
        have hbz : Bx p [.slice a N cap, .int .i64 (min (o + h + 1) (8 * N) : Nat)] wz := by
          have kz : KpS (fun _ => False) w1 wz := ⟨hkz.os.trans HK1.out.os.symm, hkz.tape.trans HK1.out.tape.symm, hkz.output.trans HK1.out.output.symm, by rw [hz]; exact Nat.le_refl _, fun b _ _ => by rw [hz]⟩
          refine kz.bx (fun h => h) ?_ hb1
          exact World.block_lt_of_cell? w1 _ (hb1 0 _ rfl).1
        refine (takeX_any p a N cap (min (o + h + 1) (8 * N)) g hN HG.out (by omega) K hK wz hbz (hkz.pxU (fun h9 b off h => HA.out h9 b off h) HP.out) HA.out).mono ?_
        rintro e w' ⟨x, rfl, hx, hk', hb'⟩
        have hk2 := hkz.trans hk'
        exact ⟨x, rfl, ⟨((hk2.bx HQ1.out HZ1.out H1.out) 0 _ rfl).1, ((hk2.bx HQ2.out HZ2.out H2.out) 0 _ rfl).1⟩, hx, hk2, hb'⟩
      have j1 := ((HK1.out.bx HQ1.out HZ1.out H1.out) 0 _ rfl).1
      have j2 := ((HK1.out.bx HQ2.out HZ2.out H2.out) 0 _ rfl).1
      have HKZ : Hid (∀ d, KpS (· = p) w (w1.drewN d)) := fun d => ⟨HK1.out.os, HK1.out.tape, HK1.out.output, HK1.out.size, HK1.out.block⟩
      have HKY : Hid (KpS (· = p) w w1.drew) := ⟨HK1.out.os, HK1.out.tape, HK1.out.output, HK1.out.size, HK1.out.block⟩
      have SK0 : Hid (w1.cell? ⟨q1, 0, none⟩ = some (.pointer (some ⟨p, 0, none⟩)) ∧ w1.cell? ⟨q2, 0, none⟩ = some (.int .i64 K)) := ⟨j1, j2⟩
      have k0 : ¬ (K : Int) < 0 := by omega
      clear hk1 hb1 c HK i1 HG HP HA HK1 H1 H2 HQ1 HQ2 HZ1 HZ2
      go_upto_region 4 with fail
      go_region_held3 (fun (w' : World) => w'.cell? ⟨q1, 0, none⟩ = some (.pointer (some ⟨p, 0, none⟩)) ∧ w'.cell? ⟨q2, 0, none⟩ = some (.int .i64 K))
        (first | exact SK0.out | exact SK9)
        (first | (go_at_call 54; (first | refine (HC2.out _ (by rfl) HKY.out).mono ?_ | refine (HC2.out _ (by rfl) (HKZ.out _)).mono ?_); rintro e w9 ⟨x, rfl, SK9, HF⟩; have m1 := SK9.1; have m2 := SK9.2))
      all_goals
        go_wp2_with fail
        go_ret
        exact ⟨_, _, rfl, HF.out.2.1, HF.out.2.2, h, x, rfl, HF.out.1, HO.out, HB0.out, rfl⟩

end Go.Proofs.Ytebcclmilplfcaa

/- The program's reader: tones as runs, the walk. -/
import Derived.Test.YtebcclmilplfcaaXpr
namespace Go.Proofs.Ytebcclmilplfcaa
open Go.RowKit

set_option maxRecDepth 100000 in
set_option maxHeartbeats 2000000 in
theorem takeRuns_any (p : Nat) (a : Option Addr) (cap o : Nat) (B : List Int) (hN : B.length ≤ 1048576) (hg : ∀ k, k < B.length → 0 ≤ gB B k ∧ gB B k ≤ 255) (ho : o ≤ 8 * B.length) (n : Nat) (hn : n ≤ 65536) (w : World) (hx : Bx p [.slice a B.length cap, .int .i64 o] w) (hP : PxU a B.length (gB B) w) (hap : B.length ≠ 0 → ∀ b off, a = some ⟨b, off, none⟩ → ¬ b = p ∧ b < w.heap.size) (hpw : p < w.heap.size) :
    Calls Try.prog 50 #[.pointer (some ⟨p, 0, none⟩), .int .i64 n] w fun e w' => ∃ (L : List Int) (v : Value), L.length ≤ n ∧ (∀ f, tnB f n → RnI B n [] o f → L = fl f n) ∧ e = .returned v ∧ w'.ownsRow w.heap.size 2 1 v L.length (ints L) ∧ KpS (· = p) w w' := by
  have HP := hide hP
  have HG := hide hg
  have HA := hide hap
  have HX := hide hx
  clear hP hg hap hx
  generalize hNN : B.length = N at *
  have HNN := hide hNN
  clear hNN
  go_enter Try.func50, Try.ntmps50
  go_wp2_with fail
  go_loopw [5, 6, 7, 8] (fun v l _ _ wr => ∃ (L : List Int) (o' i m : Nat) (ad : Option Addr) (cp : Nat), i + m = n ∧ Hid (L.length = i) ∧ v = .slice ad i cp ∧ l = .int .i64 m ∧ wr.ownsRow w.heap.size 2 1 (.slice ad i cp) i (ints L) ∧ KpS (· = p) w wr ∧ Bx p [.slice a N cap, .int .i64 o'] wr ∧ o' ≤ 8 * N ∧ Hid (∀ f, tnB f n → RnI B n [] o f → RnI B n L o' f)) (fun _ _ _ _ wr => 8 * N - (match wr.cell? ⟨p, 1, none⟩ with | some v => (intOf v).toNat | none => 0))
  case atStart => exact ⟨[], o, 0, n, none, 0, by omega, hide rfl, rfl, rfl, World.ownsRow_nil _ _ _ _, KpS.refl _ _, HX.out, ho, hide fun f _ h => h⟩
  case round =>
    obtain ⟨L, o', i, m, ad, cp, him, HL, rfl, rfl, hw, hk, hb, ho', HR⟩ := hrel
    have HW := hide hw
    have HK := hide hk
    have HB := hide hb
    clear hw hk hb HX ho
    by_cases hm : m = 0
    · subst hm
      have HF : Hid (∃ (L : List Int) (v : Value), L.length ≤ n ∧ (∀ f, tnB f n → RnI B n [] o f → L = fl f n) ∧ Ending.returned (.slice ad i cp) = .returned v ∧ wr.ownsRow w.heap.size 2 1 v L.length (ints L) ∧ KpS (· = p) w wr) :=
        ⟨L, _, by rw [HL.out]; omega, fun f hf h => (HR.out f hf h).last hn (.inl (by rw [HL.out]; omega)), rfl, by rw [HL.out]; exact HW.out, HK.out⟩
      clear HP HG HA HW HK HB HR HL HNN
      go_wp2_with fail
      go_ret
      exact HF.out
    · have hm1 : (0 : Int) < m := by omega
      have cE := isAtEnd_any p a N cap o' hN wr HB.out
      by_cases hend : 8 * N ≤ o'
      · rw [decide_eq_true hend] at cE
        have HF : Hid (∀ d, ∃ (L : List Int) (v : Value), L.length ≤ n ∧ (∀ f, tnB f n → RnI B n [] o f → L = fl f n) ∧ Ending.returned (.slice ad i cp) = .returned v ∧ (wr.drewN d).ownsRow w.heap.size 2 1 v L.length (ints L) ∧ KpS (· = p) w (wr.drewN d)) := fun d =>
          ⟨L, _, by rw [HL.out]; omega, fun f hf h => (HR.out f hf h).last hn (.inr (by rw [HNN.out]; exact hend)), rfl, by rw [HL.out]; exact owns_same HW.out fun _ _ => rfl, ⟨HK.out.os, HK.out.tape, HK.out.output, HK.out.size, HK.out.block⟩⟩
        clear HP HG HA HW HK HB HR HL HNN
        go_wp2_with fail
        refine cE.mono ?_
        rintro e w2 ⟨rfl, d, rfl⟩
        clear cE
        go_wp2_with fail
        go_ret
        exact HF.out d
      · rw [decide_eq_false hend] at cE
        have hend' : o' < 8 * N := by omega
        have HW2 : Hid (∀ d, (wr.drewN d).ownsRow w.heap.size 2 1 (.slice ad i cp) i (ints L)) := fun d => owns_same HW.out fun _ _ => rfl
        have HK2 : Hid (∀ d, KpS (· = p) w (wr.drewN d)) := fun d => ⟨HK.out.os, HK.out.tape, HK.out.output, HK.out.size, HK.out.block⟩
        have HB2 : Hid (∀ d, Bx p [.slice a N cap, .int .i64 o'] (wr.drewN d)) := fun d => HB.out
        have HC : Hid (wr.cell? ⟨p, 1, none⟩ = some (.int .i64 o')) := (HB.out 1 _ rfl).1
        clear HW HK HB hend
        go_wp2_with fail
        refine cE.mono ?_
        rintro e w2 ⟨rfl, d, rfl⟩
        clear cE
        have hw3 := HW2.out d
        have hk3 := HK2.out d
        have hb3 := HB2.out d
        clear HW2 HK2 HB2
        generalize World.drewN wr d = wd at *
        have c1 := takeSmall_any p a N cap o' (gB B) hN HG.out ho' wd hb3 (hk3.pxU (fun h9 b off h => (HA.out h9 b off h).1) HP.out) (fun h9 b off h => (HA.out h9 b off h).1)
        have b1 := ts_bd (gB B) N o' ho'
        have g1 := tsO_grow (gB B) N o' hend'
        have c2 := fun w' h1 h2 => takeSmall_any p a N cap (tsO (gB B) N o') (gB B) hN HG.out b1.2.2.2 w' h1 h2 (fun h9 b off h => (HA.out h9 b off h).1)
        have b2 := ts_bd (gB B) N _ b1.2.2.2
        have HR2 : Hid (∀ f, tnB f n → RnI B n [] o f → RnI B n (L ++ List.replicate (min (tsV (gB B) N o') m).toNat (tsV (gB B) N (tsO (gB B) N o'))) (tsO (gB B) N (tsO (gB B) N o')) f) := fun f hf h => by
          have := (HR.out f hf h).step hf hn (by rw [HL.out]; omega)
          rw [HL.out, HNN.out, show n - i = m by omega] at this
          exact this
        clear HR
        have HC2 := hide c2
        clear c2
        have HW3 := hide hw3
        have HK3 := hide hk3
        clear hw3 hk3 hb3
        generalize tsV (gB B) N o' = V1 at *
        generalize tsV (gB B) N (tsO (gB B) N o') = V2 at *
        generalize hO2 : tsO (gB B) N (tsO (gB B) N o') = O2 at *
        clear hO2
        generalize hO1 : tsO (gB B) N o' = O1 at *
        clear hO1
        go_wp2_with fail
        refine c1.mono ?_
        rintro e w4 ⟨rfl, hk4, hb4⟩
        have HK4 := hide (HK3.out.trans hk4)
        have HW4 : Hid (w4.ownsRow w.heap.size 2 1 (.slice ad i cp) i (ints L)) := owns_same HW3.out fun b hb => hk4.kp (fun h9 => by have := (HW3.out.lt b hb).1; omega) (HW3.out.lt b hb).2
        have c3 := HC2.out w4 hb4 (HK4.out.pxU (fun h9 b off h => (HA.out h9 b off h).1) HP.out)
        clear c1 hk4 hb4 HC2 HK3 HW3
        go_wp2_with fail
        refine c3.mono ?_
        rintro e w5 ⟨rfl, hk5, hb5⟩
        have HK5 := hide (HK4.out.trans hk5)
        have HW5 : Hid (w5.ownsRow w.heap.size 2 1 (.slice ad i cp) i (ints L)) := owns_same HW4.out fun b hb => hk5.kp (fun h9 => by have := (HW4.out.lt b hb).1; omega) (HW4.out.lt b hb).2
        have HB5 := hide hb5
        clear c3 hk5 hb5 HK4 HW4
        obtain ⟨r, hr⟩ : ∃ r : Nat, min V1 (m : Int) = r := ⟨(min V1 (m : Int)).toNat, by omega⟩
        have hrm : r ≤ m := by omega
        rw [hr, Int.toNat_natCast] at HR2
        have HG1 : Hid (o' < O2) := by show _ < _; omega
        have HO2 := hide b2.2.2.2
        clear b1 b2 g1 HG HP HA
        go_wp2_with fail
        go_loopw [5, 28] (fun v j wq => ∃ (k : Nat) (ad : Option Addr) (cp : Nat), k ≤ r ∧ j = .int .i64 k ∧ v = .slice ad (i + k) cp ∧ wq.ownsRow w.heap.size 2 1 (.slice ad (i + k) cp) (i + k) (ints (L ++ List.replicate k V2)) ∧ KpS (· = p) w wq ∧ Bx p [.slice a N cap, .int .i64 O2] wq) (fun _ j _ => r - (intOf j).toNat)
        case atStart => exact ⟨0, ad, cp, by omega, rfl, rfl, by simpa using HW5.out, HK5.out, HB5.out⟩
        case round =>
          obtain ⟨k, ad', cp', hkr, rfl, rfl, hwq, hkq, hbq⟩ := hrel
          clear HW5 HK5 HB5
          by_cases hlk : k < r
          · have HWq := hide hwq
            have HKq := hide hkq
            have HBq := hide hbq
            have HSq : Hid (w.heap.size ≤ wr.heap.size) := hkq.size
            have HLk : Hid (L ++ List.replicate (k + 1) V2 = L ++ List.replicate k V2 ++ [V2]) := by show _ = _; rw [List.replicate_succ', List.append_assoc]
            clear hwq hkq hbq HR2
            generalize L ++ List.replicate k V2 = M at *
            generalize hik : i + k = ik at *
            generalize hv0 : Value.slice ad' ik cp' = v0 at *
            go_wp2_with (refine growL _ rfl _ _ rfl w.heap.size v0 ik M rfl wr HWq.out (Below.refl _ _) HSq.out V2 rfl (by omega) ?_)
            intro v' w' ho' hb' hs'
            obtain ⟨a2, c2, rfl⟩ := own_form1 ho'
            have HO5 := hide ho'
            have HK6 : Hid (KpS (· = p) w w') := ⟨hb'.os.trans HKq.out.os, hb'.tape.trans HKq.out.tape, hb'.output.trans HKq.out.output, Nat.le_trans HKq.out.size hb'.size, fun b hb hs => (hb'.block b hb).trans (HKq.out.block b hb hs)⟩
            have HB6 := hide (HBq.out.below hb' hpw)
            clear ho' hb' hs' HWq HKq HBq HSq hv0
            go_wp2_with fail
            go_roundw
            case rel => exact ⟨k + 1, a2, c2, by omega, by go_num, by rw [← Nat.add_assoc, hik], by rw [← Nat.add_assoc, hik, HLk.out]; exact HO5.out, HK6.out, HB6.out⟩
            case measure => simp [intOf]; omega
          · obtain rfl : k = r := by omega
            have HWq := hide hwq
            have HKq := hide hkq
            have HBq := hide hbq
            have HC7 : Hid (wr.cell? ⟨p, 1, none⟩ = some (.int .i64 O2)) := (hbq 1 _ rfl).1
            clear hwq hkq hbq
            go_wp2_with fail
            go_roundw
            case rel => exact ⟨L ++ List.replicate k V2, O2, i + k, m - k, ad', cp', by omega, by show _ = _; rw [List.length_append, List.length_replicate, HL.out], rfl, by go_num, HWq.out, HKq.out, HBq.out, HO2.out, HR2⟩
            case measure => simp only [HC7.out, HC.out, intOf, Int.toNat_natCast]; have := HG1.out; omega

end Go.Proofs.Ytebcclmilplfcaa

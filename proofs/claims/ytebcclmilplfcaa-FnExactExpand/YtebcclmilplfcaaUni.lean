/- The program's reader of bits. -/
import Derived.Test.YtebcclmilplfcaaUnn
import Derived.Test.YtebcclmilplfcaaKps
import Derived.Test.YtebcclmilplfcaaGrl
import Derived.BigRegion
namespace Go.Proofs.Ytebcclmilplfcaa
open Go.RowKit

theorem KpS.pxU {S : Nat → Prop} {a : Option Addr} {n : Nat} {f : Nat → Int} {w w' : World} (h : KpS S w w') (hs : n ≠ 0 → ∀ b off, a = some ⟨b, off, none⟩ → ¬ S b) (hx : PxU a n f w) : PxU a n f w' := by
  by_cases h0 : n = 0
  · exact .inl h0
  rcases hx with hx | ⟨b, off, ha, hx⟩
  · exact .inl hx
  · refine .inr ⟨b, off, ha, fun k hk => ?_⟩
    have q := hx k hk
    rw [World.cell?_of_block (w := w) (a := ⟨b, off + k, none⟩) (h.block b (World.block_lt_of_cell? w _ q) (hs h0 b off ha))]
    exact q
theorem u8_and1 (x : Int) (h0 : 0 ≤ x) (h1 : x < 256) : bits .and .u8 x 1 = x % 2 := bits_mask .u8 8 (by decide) wraps_u8 1 (by decide) x h0 h1
theorem wraps_i64' (n : Int) (h₀ : 0 ≤ n) (h₁ : n < 2 ^ 63) : IntKind.i64.wrap n = n := by rw [IntKind.wrap_i64]; omega
theorem or_bit64 (x : Int) (t : Nat) (ht : t < 62) (h0 : 0 ≤ x) (h1 : x < 2 ^ t) (b : Int) (hb : b = 0 ∨ b = 1) : bits .or .i64 x (IntKind.i64.wrap (b * 2 ^ t)) = x + b * 2 ^ t := by
  have hp : (2 : Int) ^ t ≤ 2 ^ 61 := by exact_mod_cast Nat.pow_le_pow_right (by decide) (by omega : t ≤ 61)
  have hp0 := pow_pos2 t
  have hc : ∀ z, bits .or .i64 x z = bits .or .i64 z x := fun z => by simp only [bits, BitVec.or_comm]
  have hw : IntKind.i64.wrap (b * 2 ^ t) = b * 2 ^ t := by rw [IntKind.wrap_i64]; rcases hb with rfl | rfl <;> omega
  rw [hw, hc, bits_join .i64 63 (by decide) wraps_i64' t (b * 2 ^ t) x (by rcases hb with rfl | rfl <;> omega) (Int.mul_emod_left _ _) (by rcases hb with rfl | rfl <;> omega) h0 h1 (by omega)]
  omega

theorem isAtEnd_any (p : Nat) (a : Option Addr) (N cap o : Nat) (hN : N ≤ 1048576) (w : World) (hx : Bx p [.slice a N cap, .int .i64 o] w) :
    Calls Try.prog 58 #[.pointer (some ⟨p, 0, none⟩)] w fun e w' => e = .returned (.bool (decide (8 * N ≤ o))) ∧ ∃ d, w' = w.drewN d := by
  have i0 := (hx 0 _ rfl).1
  have i1 := (hx 1 _ rfl).1
  have e1 : IntKind.i64.wrap ((N : Int) * 8) = (N : Int) * 8 := by rw [IntKind.wrap_i64]; omega
  have HD : Hid (decide (8 * N ≤ o) = decide ((N : Int) * 8 ≤ (o : Int))) := by show _ = _; congr 1; rw [eq_iff_iff]; omega
  clear hx
  go_enter Try.func58, Try.ntmps58
  go_wp2_with fail
  go_quiet (fail)
  go_wp2_with fail
  go_ret
  exact ⟨by rw [HD.out]; rfl, _, rfl⟩

set_option maxRecDepth 100000 in
set_option maxHeartbeats 2000000 in
theorem take_any (p : Nat) (a : Option Addr) (N cap o : Nat) (g : Nat → Int) (hN : N ≤ 1048576) (hg : ∀ k, k < N → 0 ≤ g k ∧ g k ≤ 255) (ho : o ≤ 8 * N) (m : Nat) (hm : m ≤ 62) (w : World) (hx : Bx p [.slice a N cap, .int .i64 o] w) (hP : PxU a N g w) (hap : N ≠ 0 → ∀ b off, a = some ⟨b, off, none⟩ → b ≠ p) :
    Calls Try.prog 54 #[.pointer (some ⟨p, 0, none⟩), .int .i64 m] w fun e w' => e = .returned (.int .i64 (uvE g N o m)) ∧ KpS (· = p) w w' ∧ Bx p [.slice a N cap, .int .i64 (min (o + m) (8 * N) : Nat)] w' := by
  have HP := hide hP
  have HG := hide hg
  have HA := hide hap
  clear hP hg hap
  go_enter Try.func54, Try.ntmps54
  go_wp2_with fail
  go_loopw [5, 6, 8] (fun v _ j wr => ∃ k : Nat, k ≤ m ∧ j = .int .i64 k ∧ v = .int .i64 (uvE g N o k) ∧ KpS (· = p) w wr ∧ Bx p [.slice a N cap, .int .i64 (min (o + k) (8 * N) : Nat)] wr) (fun _ _ j _ => m - (intOf j).toNat)
  case atStart => exact ⟨0, by omega, rfl, rfl, KpS.refl _ _, by rw [show min (o + 0) (8 * N) = o by omega]; exact hx⟩
  case round =>
    obtain ⟨k, hk, rfl, rfl, hkp, hb⟩ := hrel
    clear hx
    by_cases hlt : k < m
    · have hU := uvE_bd g N o k
      have HE : Hid (uvE g N o (k + 1) = uvE g N o k + bitE g N (o + k) * 2 ^ k) := rfl
      have cE := isAtEnd_any p a N cap (min (o + k) (8 * N)) hN wr hb
      by_cases hend : o + k < 8 * N
      · have hmin : min (o + k) (8 * N) = o + k := by omega
        rw [hmin] at hb cE
        have hq : (o + k) / 8 < N := by omega
        have hE1 : bitE g N (o + k) = bitU g (o + k) := by unfold bitE; rw [if_pos hend]
        have hv := HG.out _ hq
        obtain ⟨b, off, rfl, hz⟩ := (hkp.pxU (fun h0 b off h => HA.out h0 b off h) HP.out).at hq
        have HEE : Hid (bits .or .i64 (uvE g N o k) (wrap64 (wrap64 (bits .and .u8 (g ((o + k) / 8) / 2 ^ ((o + k) % 8)) 1) * 2 ^ k)) = uvE g N o (k + 1)) := by
          show _ = _
          have hw : ∀ z, wrap64 z = IntKind.i64.wrap z := fun z => by rw [IntKind.wrap_i64]; unfold wrap64; rfl
          have h0 : 0 ≤ g ((o + k) / 8) / 2 ^ ((o + k) % 8) := Int.ediv_nonneg hv.1 (by have := pow_pos2 ((o + k) % 8); omega)
          have h1 : g ((o + k) / 8) / 2 ^ ((o + k) % 8) ≤ 255 := Int.le_trans (Int.ediv_le_self _ hv.1) hv.2
          rw [u8_and1 _ h0 (by omega), HE.out, hE1, hw, show wrap64 (g ((o + k) / 8) / 2 ^ ((o + k) % 8) % 2) = g ((o + k) / 8) / 2 ^ ((o + k) % 8) % 2 by unfold wrap64; omega]
          exact or_bit64 _ k (by omega) hU.1 hU.2 _ (bitU_01 g (o + k))
        rw [decide_eq_false (by omega)] at cE
        have i0 := (hb 0 _ rfl).1
        have i1 := (hb 1 _ rfl).1
        have f1 := (hb 1 _ rfl).2
        have HBS := hide (fun d z => (show Bx p _ (wr.drewN d) from hb).set 1 z)
        have HKS : Hid (∀ d z, KpS (· = p) w ((wr.drewN d).setCell ⟨p, 1, none⟩ z)) := fun d z => by
          have : KpS (· = p) w (wr.drewN d) := ⟨hkp.os, hkp.tape, hkp.output, hkp.size, hkp.block⟩
          exact this.setCell rfl z
        have hmin2 : ((min (o + (k + 1)) (8 * N) : Nat) : Int) = ((o + k : Nat) : Int) + 1 := by omega
        have HM2 := hide hmin2
        have e1 : ((o + k : Nat) : Int).tmod 8 = (((o + k) % 8 : Nat) : Int) := by rw [Int.tmod_eq_emod_of_nonneg (by omega)]; simp
        have e2 : ((o + k : Nat) : Int).tdiv 8 = (((o + k) / 8 : Nat) : Int) := by rw [Int.tdiv_eq_ediv_of_nonneg (by omega)]; simp
        have e3 : IntKind.i64.wrap (((o + k) / 8 : Nat) : Int) = (((o + k) / 8 : Nat) : Int) := by rw [IntKind.wrap_i64]; omega
        have e4 : IntKind.i64.wrap (((o + k) % 8 : Nat) : Int) = (((o + k) % 8 : Nat) : Int) := by rw [IntKind.wrap_i64]; omega
        have ht7 : (o + k) % 8 ≤ 7 := by omega
        clear hb hkp hE1 hmin hmin2 HP HA HG
        generalize g ((o + k) / 8) = V at *
        generalize hU1 : uvE g N o (k + 1) = U1 at *
        have HU1 := hide hU1
        clear hU1
        generalize uvE g N o k = U0 at *
        generalize bitE g N (o + k) = bb at *
        generalize (o + k) / 8 = q at *
        generalize (o + k) % 8 = t at *
        generalize hok : o + k = ok at *
        clear hok HE
        go_wp2_with fail
        refine cE.mono ?_
        rintro e w2 ⟨rfl, d, rfl⟩
        clear cE
        go_upto_region 6 with fail
        go_region
        rw [HEE.out]
        have HB2 := hide (HBS.out (d + 1) (.int .i64 ((ok : Int) + 1)))
        have HK2 := hide (HKS.out (d + 1) (.int .i64 ((ok : Int) + 1)))
        have j1 : (wr.drewN (d + 1)).cell? ⟨p, 1, none⟩ = some (.int .i64 ok) := i1
        have g1 : (wr.drewN (d + 1)).frozen? ⟨p, 1, none⟩ = false := f1
        clear HBS HKS i0 i1 f1 HEE
        generalize World.drewN wr (d + 1) = wz at *
        go_wp2_with fail
        go_roundw
        case rel => exact ⟨k + 1, by omega, by go_num, by rw [HU1.out], HK2.out, by rw [HM2.out]; exact HB2.out⟩
        case measure => simp [intOf]; omega
      · have hmin : min (o + k) (8 * N) = 8 * N := by omega
        have HM2 : Hid (min (o + (k + 1)) (8 * N) = 8 * N) := by show _ = _; omega
        have HE0 : Hid (uvE g N o (k + 1) = uvE g N o k) := by
          show _ = _
          rw [HE.out]
          unfold bitE
          rw [if_neg hend]; omega
        rw [hmin] at hb cE
        rw [decide_eq_true (by omega)] at cE
        have HBS := hide (fun d => (show Bx p _ (wr.drewN d) from hb))
        have HKS : Hid (∀ d, KpS (· = p) w (wr.drewN d)) := fun d => ⟨hkp.os, hkp.tape, hkp.output, hkp.size, hkp.block⟩
        clear hb hkp HP HA HG HE hmin
        generalize uvE g N o k = U0 at *
        go_wp2_with fail
        refine cE.mono ?_
        rintro e w2 ⟨rfl, d, rfl⟩
        clear cE
        go_wp2_with fail
        go_roundw
        case rel => exact ⟨k + 1, by omega, by go_num, by rw [HE0.out], HKS.out _, by rw [HM2.out]; exact HBS.out _⟩
        case measure => simp [intOf]; omega
    · obtain rfl : k = m := by omega
      go_wp2_with fail
      go_ret
      exact ⟨rfl, hkp, hb⟩

set_option maxRecDepth 100000 in
theorem takeBits1_fn (ar : Array Value) (w : World) : Sem.run Try.prog (callFunc 56 ar) w = .ok (.enter 56 ar) w := rfl

theorem takeBits1_any (p q1 q2 : Nat) (a : Option Addr) (N cap o : Nat) (g : Nat → Int) (hN : N ≤ 1048576) (hg : ∀ k, k < N → 0 ≤ g k ∧ g k ≤ 255) (ho : o ≤ 8 * N) (m : Nat) (hm : m ≤ 62) (w : World) (hx : Bx p [.slice a N cap, .int .i64 o] w) (hP : PxU a N g w) (hap : N ≠ 0 → ∀ b off, a = some ⟨b, off, none⟩ → b ≠ p)
    (h1 : Bx q1 [.pointer (some ⟨p, 0, none⟩)] w) (h2 : Bx q2 [.int .i64 m] w) :
    Calls Try.prog 56 #[.pointer (some ⟨q1, 0, none⟩), .pointer (some ⟨q2, 0, none⟩)] w fun e w' => e = .returned (.int .i64 (uvE g N o m)) ∧ KpS (· = p) w w' ∧ Bx p [.slice a N cap, .int .i64 (min (o + m) (8 * N) : Nat)] w' := by
  have c := take_any p a N cap o g hN hg ho m hm w hx hP hap
  have i1 := (h1 0 _ rfl).1
  have i2 := (h2 0 _ rfl).1
  clear hx hP h1 h2 hg hap
  generalize uvE g N o m = U at *
  go_enter Try.func56, Try.ntmps56
  go_wp2_with fail
  refine c.mono ?_
  rintro e w2 ⟨rfl, hk, hb⟩
  clear c
  have HK := hide hk
  have HB := hide hb
  clear hk hb i1 i2
  go_wp2_with fail
  go_ret
  exact ⟨rfl, HK.out, HB.out⟩

/-- tones are taken one by one by a function value, till there are enough or the bytes end -/
theorem takeAll_any (p : Nat) (a : Option Addr) (N cap : Nat) (hN : N ≤ 1048576) (n : Nat) (hn : n ≤ 1048576) (K : Nat) (hK : ∀ ar w, Sem.run Try.prog (callFunc K ar) w = .ok (.enter K ar) w) (cp : Array Value) (S : Nat → Prop) (w : World) (hS : ∀ b, S b → b < w.heap.size) (F : Nat → Int) (O : Nat → Nat) (Inv : Nat → World → Prop)
    (h0 : Inv 0 w)
    (hx : ∀ i wr, Inv i wr → Bx p [.slice a N cap, .int .i64 (O i)] wr)
    (hn' : ∀ i wr w', Inv i wr → Below w.heap.size wr w' → Inv i w')
    (hs : ∀ i wr, i < n → O i < 8 * N → w.heap.size ≤ wr.heap.size → Inv i wr → Calls Try.prog K cp wr fun e w' => e = .returned (.int .i64 (F i)) ∧ KpS S wr w' ∧ Inv (i + 1) w') :
    Calls Try.prog 55 #[.pointer (some ⟨p, 0, none⟩), .int .i64 n, .func (.func K) #[] cp] w fun e w' => ∃ (c : Nat) (v : Value), c ≤ n ∧ (c = n ∨ 8 * N ≤ O c) ∧ (∀ i, i < c → O i < 8 * N) ∧ e = .returned v ∧ w'.ownsRow w.heap.size 2 1 v c (ints (fl F c)) ∧ KpS S w w' ∧ Inv c w' := by
  have H0 := hide h0
  have HX := hide hx
  have HN := hide hn'
  have HS := hide hs
  have HSS := hide hS
  clear h0 hx hn' hs hS
  go_enter Try.func55, Try.ntmps55
  go_wp2_with fail
  go_loopw [7] (fun v wr => ∃ (i : Nat) (ad : Option Addr) (cp' : Nat), i ≤ n ∧ v = .slice ad i cp' ∧ wr.ownsRow w.heap.size 2 1 (.slice ad i cp') i (ints (fl F i)) ∧ KpS S w wr ∧ Inv i wr ∧ (∀ j, j < i → O j < 8 * N)) (fun v _ => n - (match v with | .slice _ k _ => k | _ => 0))
  case atStart => exact ⟨0, none, 0, by omega, rfl, World.ownsRow_nil _ _ _ _, KpS.refl _ _, H0.out, fun j hj => absurd hj (Nat.not_lt_zero _)⟩
  case round =>
    obtain ⟨i, ad, cp', hi, rfl, ho, hk, hI, hO⟩ := hrel
    have HO := hide ho
    have HK := hide hk
    have HI := hide hI
    have HOO := hide hO
    clear ho hk hI hO H0
    by_cases hlt : i < n
    · have cE := isAtEnd_any p a N cap (O i) hN wr (HX.out i wr HI.out)
      by_cases hend : 8 * N ≤ O i
      · rw [decide_eq_true hend] at cE
        have HF : Hid (∀ d, ∃ (c : Nat) (v : Value), c ≤ n ∧ (c = n ∨ 8 * N ≤ O c) ∧ (∀ i, i < c → O i < 8 * N) ∧ Ending.returned (.slice ad i cp') = .returned v ∧ (wr.drewN d).ownsRow w.heap.size 2 1 v c (ints (fl F c)) ∧ KpS S w (wr.drewN d) ∧ Inv c (wr.drewN d)) := fun d =>
          ⟨i, _, hi, .inr hend, HOO.out, rfl, owns_same HO.out fun _ _ => rfl, ⟨HK.out.os, HK.out.tape, HK.out.output, HK.out.size, HK.out.block⟩, HN.out i wr _ HI.out (below_drewN (Below.refl _ _) d)⟩
        clear HX HN HS HSS HO HK HI HOO hend
        go_wp2_with fail
        refine cE.mono ?_
        rintro e w2 ⟨rfl, d, rfl⟩
        clear cE
        go_wp2_with fail
        go_ret
        exact HF.out d
      · rw [decide_eq_false hend] at cE
        have hend' : O i < 8 * N := by omega
        have HI2 : Hid (∀ d, Inv i (wr.drewN d)) := fun d => HN.out i wr _ HI.out (below_drewN (Below.refl _ _) d)
        have HO2 : Hid (∀ d, (wr.drewN d).ownsRow w.heap.size 2 1 (.slice ad i cp') i (ints (fl F i))) := fun d => owns_same HO.out fun _ _ => rfl
        have HK2 : Hid (∀ d, KpS S w (wr.drewN d)) := fun d => ⟨HK.out.os, HK.out.tape, HK.out.output, HK.out.size, HK.out.block⟩
        have HOO2 : Hid (∀ j, j < i + 1 → O j < 8 * N) := fun j hj => by
          by_cases e : j = i
          · rw [e]; exact hend'
          · exact HOO.out j (by omega)
        clear HX HO HI HOO HK hend
        go_wp2_with fail
        refine cE.mono ?_
        rintro e w2 ⟨rfl, d, rfl⟩
        clear cE
        have cS := HS.out i (wr.drewN d) hlt hend' (HK2.out d).size (HI2.out d)
        have HO3 := hide (HO2.out d)
        have HK3 := hide (HK2.out d)
        clear HI2 HO2 HK2 hend' HS
        generalize World.drewN wr d = wd at *
        go_wp2_with fail
        refine cS.mono ?_
        rintro e w3 ⟨rfl, hk3, hi3⟩
        have HO4 : Hid (w3.ownsRow w.heap.size 2 1 (.slice ad i cp') i (ints (fl F i))) := owns_same HO3.out fun b hb => hk3.kp (fun h9 => by have := (HO3.out.lt b hb).1; have := HSS.out b h9; omega) (HO3.out.lt b hb).2
        have HK4 := hide (HK3.out.trans hk3)
        have HI4 := hide hi3
        have HS4 : Hid (w.heap.size ≤ w3.heap.size) := HK4.out.size
        clear cS hk3 hi3 HO3 HK3
        generalize hv0 : Value.slice ad i cp' = v0 at *
        go_wp2_with (refine growL _ rfl _ _ rfl w.heap.size v0 i (fl F i) rfl w3 HO4.out (Below.refl _ _) HS4.out (F i) rfl (by omega) ?_)
        intro v' w' ho' hb' hs'
        obtain ⟨a2, c2, b2, rfl, -, -⟩ := ow_fl (f := F) (show w'.ownsRow w.heap.size 2 1 v' (i + 1) (ints (fl F (i + 1))) from ho')
        have HO5 : Hid (w'.ownsRow w.heap.size 2 1 (.slice a2 (i + 1) c2) (i + 1) (ints (fl F (i + 1)))) := ho'
        have HK5 : Hid (KpS S w w') := ⟨hb'.os.trans HK4.out.os, hb'.tape.trans HK4.out.tape, hb'.output.trans HK4.out.output, Nat.le_trans HK4.out.size hb'.size, fun b hb hs => (hb'.block b hb).trans (HK4.out.block b hb hs)⟩
        have HI5 := hide (HN.out _ _ _ HI4.out hb')
        clear ho' hb' hs' HO4 HK4 HI4 HS4 HN HSS hv0
        go_wp2_with fail
        go_roundw
        case rel => exact ⟨i + 1, a2, c2, by omega, rfl, HO5.out, HK5.out, HI5.out, HOO2.out⟩
        case measure => simp; omega
    · obtain rfl : i = n := by omega
      have HF : Hid (∃ (c : Nat) (v : Value), c ≤ i ∧ (c = i ∨ 8 * N ≤ O c) ∧ (∀ i, i < c → O i < 8 * N) ∧ Ending.returned (.slice ad i cp') = .returned v ∧ wr.ownsRow w.heap.size 2 1 v c (ints (fl F c)) ∧ KpS S w wr ∧ Inv c wr) := ⟨i, _, hi, .inl rfl, HOO.out, rfl, HO.out, HK.out, HI.out⟩
      clear HX HN HS HSS HO HK HI HOO
      go_wp2_with fail
      go_ret
      exact HF.out

end Go.Proofs.Ytebcclmilplfcaa

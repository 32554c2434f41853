/- Unwrapping a list: the specification, the program. -/
import Derived.Test.YtlfpiifbbicbpaaWrl
namespace Go.Proofs.Ytlfpiifbbicbpaa
open Go.RowKit

/-- the unwrapped numbers -/
def unwF (h : Nat) (f : Nat → Int) : Nat → Int
  | 0 => f 0
  | k + 1 => unwF h f k + wrp h (f (k + 1) - f k)
/-- can the list be unwrapped -/
def unwB (half : Int) (len : Nat) (f : Nat → Int) : Bool := phB half len f && allB (unwF half.toNat f) len
def unwN (half : Int) (len : Nat) (f : Nat → Int) : Nat := if unwB half len f = true then len else 0
theorem wrp_bd {h : Nat} (h1 : 1 ≤ h) (x : Int) : -(h : Int) ≤ wrp h x ∧ wrp h x < h := by
  have := emod_bd (x + h) (m := 2 * h) (by omega)
  unfold wrp; omega

set_option maxRecDepth 100000 in
set_option maxHeartbeats 1000000 in
theorem specUnwrap_any (half : Int) (a : Option Addr) (len cap : Nat) (f : Nat → Int) (hl : len ≤ 1048576) (w : World) (h : Px a len f w) :
    Calls Try.prog 29 #[.slice a len cap, .int .i64 half] w (LsR (unwN half len f) (unwF half.toNat f) w) := by
  have HB0 : Hid (Below w.heap.size w (w.alloc (.cells #[] 2))) := bnew _ _
  have c := l4List_any half a len cap f hl _ (h.below HB0.out)
  cases hp : phB half len f
  · have hr : unwN half len f = 0 := by unfold unwN unwB; rw [hp]; rfl
    rw [hr]
    rw [hp] at c
    clear hp h hr
    go_enter Try.func29, Try.ntmps29
    go_wp2_with fail
    refine c.mono ?_
    rintro e w1 ⟨rfl, rfl⟩
    go_wp2_with fail
    go_ret
    exact ⟨_, _, 0, rfl, .inl rfl, .inl rfl, HB0.out⟩
  · obtain ⟨⟨m, rfl, h1, h2⟩, h4, ha⟩ := phB_parts hp
    have HN1 : Hid (allB (unwF m f) len = true → unwN m len f = len) := fun e => by unfold unwN unwB; rw [hp, Int.toNat_natCast, e]; rfl
    have HN0 : Hid (allB (unwF m f) len = false → unwN m len f = 0) := fun e => by unfold unwN unwB; rw [hp, Int.toNat_natCast, e]; rfl
    rw [hp] at c
    rw [Int.toNat_natCast]
    generalize unwN (m : Int) len f = rN at *
    have HA := hide ha
    have HP := hide h
    clear hp h ha
    go_enter Try.func29, Try.ntmps29
    go_wp2_with fail
    refine c.mono ?_
    rintro e w1 ⟨rfl, rfl⟩
    clear c
    go_wp2_with fail
    go_loopw [5, 6, 7] (fun v i _ wr => ∃ k : Nat, k ≤ len ∧ i = .int .i64 k ∧ wr.ownsRow w.heap.size 2 1 v k (ints (fl (unwF m f) k)) ∧ allB (unwF m f) k = true ∧ Below w.heap.size w wr ∧ w.heap.size < wr.heap.size) (fun _ i _ _ => len - (intOf i).toNat)
    case atStart => exact ⟨0, by omega, rfl, World.ownsRow_lit w #[] 0 (Nat.le_refl _) (by unfold maxLen; omega) rfl, rfl, HB0.out, by simp⟩
    case round =>
      obtain ⟨k, hk, rfl, ho, hall, hb, hs⟩ := hrel
      clear HB0
      by_cases hlt : k < len
      · have HB := hide hb
        have HO := hide ho
        have HG := hide hall
        have HS := hide (Nat.le_of_lt hs)
        have HL : Hid (k ≤ 1048576) := by show _ ≤ _; omega
        by_cases hk0 : k = 0
        · subst hk0
          obtain ⟨b, off, rfl, hz⟩ := (HP.out.below hb).at hlt
          obtain ⟨S, hS⟩ : ∃ S, S = f 0 := ⟨_, rfl⟩
          rw [← hS, Nat.add_zero] at hz
          have HZ : Hid (S = unwF m f 0) := hS
          clear ho hb hall HA HP hS hs
          go_upto_region 10 with fail
          have cL := l1In_any S (-1000000000) 1000000000
          cases hin : inB S (-1000000000) 1000000000
          · have hN : rN = 0 := HN0.out (allB_false hlt (by rw [← HZ.out]; exact hin))
            subst hN
            have HBe : Hid (Below w.heap.size w (wr.alloc (.cells #[] 2))) := bnext HB.out (Nat.le_refl _) (bnew _ _)
            rw [hin] at cL
            clear hin HO HN0 HN1 HG HZ
            go_wp2_with fail
            refine (cL _).mono ?_
            rintro e wy ⟨rfl, rfl⟩
            go_wp2_with fail
            go_ret
            exact ⟨_, _, 0, rfl, .inl rfl, .inl rfl, HBe.out⟩
          · have HG1 : Hid (allB (unwF m f) (0 + 1) = true) := allB_step HG.out (by rw [← HZ.out]; exact hin)
            rw [hin] at cL
            clear hin HN0 HN1 HG
            go_wp2_with fail
            refine (cL _).mono ?_
            rintro e wy ⟨rfl, rfl⟩
            clear cL
            go_wp2_with (refine grow1 _ rfl _ _ rfl w.heap.size _ (0) (unwF m f) rfl w HO.out HB.out HS.out S HZ.out rfl HL.out ?_)
            intro v' w' ho' hb' hs'
            have HO' := hide ho'
            have HB' := hide hb'
            have HS' : Hid (w.heap.size < w'.heap.size) := Nat.lt_of_le_of_lt HS.out hs'
            clear HO HB HS ho' hb' hs' HZ
            go_wp2_with fail
            exact ⟨⟨0 + 1, by omega, rfl, HO'.out, HG1.out, HB'.out, HS'.out⟩, by simp [intOf]; omega⟩
        · obtain ⟨j, hj⟩ : ∃ j, k = j + 1 := ⟨k - 1, by omega⟩
          have hjk : (j : Int) < (k : Int) := by omega
          have hpos : (0 : Int) < (k : Int) := by omega
          have hjl : (j : Int) < (len : Int) := by omega
          obtain ⟨b, off, rfl, hz⟩ := (HP.out.below hb).at hlt
          obtain ⟨_, _, heq, hy⟩ := (HP.out.below hb).at (show j < len by omega)
          cases heq
          obtain ⟨a', cap', b', rfl, ow, hB⟩ := ow_fl ho
          obtain ⟨rfl, hrow⟩ : a' = some ⟨b', 0, none⟩ ∧ Row b' k (unwF m f) wr := by
            rcases ow with h | h
            · omega
            · exact h
          have hu := (hrow j (by omega)).1
          obtain ⟨f1, f2⟩ := allB_at HA.out k hlt
          obtain ⟨f3, f4⟩ := allB_at HA.out j (by omega)
          obtain ⟨f5, f6⟩ := allB_at hall j (by omega)
          obtain ⟨D, hD⟩ : ∃ D, D = f k - f j := ⟨_, rfl⟩
          obtain ⟨S, hS⟩ : ∃ S, S = unwF m f j + wrp m D := ⟨_, rfl⟩
          have HZ : Hid (S = unwF m f k) := by show _ = _; rw [hS, hD, hj]; rfl
          have cW := l4Wrap_any D m h1 h2 (by omega) (by omega)
          obtain ⟨v1, v2⟩ := wrp_bd h1 D
          generalize wrp m D = V at *
          have w1 : IntKind.i64.wrap (f k - f j) = D := by rw [IntKind.wrap_i64]; omega
          have w2 : IntKind.i64.wrap (unwF m f j + V) = S := by rw [IntKind.wrap_i64]; omega
          generalize f k = y1 at *
          generalize f j = y0 at *
          generalize unwF m f j = u at *
          have hi1 : IntKind.i64.wrap ((k : Int) - 1) = (j : Int) := by rw [IntKind.wrap_i64]; omega
          clear ho hb hall HA HP hs f1 f2 f3 f4 f5 f6 v1 v2 hS hD hrow ow hB hj hk0
          go_upto_region 9 with fail
          have HOd : Hid (wr.drew.ownsRow w.heap.size 2 1 (.slice (some ⟨b', 0, none⟩) k cap') k (ints (fl (unwF m f) k))) := HO.out
          have HBd : Hid (Below w.heap.size w wr.drew) := HB.out.drew
          have HSd : Hid (w.heap.size ≤ wr.drew.heap.size) := HS.out
          clear HO HB HS
          go_region_with (go_at_call 46; refine (cW _).mono ?_; rintro e w3 ⟨rfl, rfl⟩)
          all_goals
            clear hz hy hu cW w1 w2
            generalize wr.drew = wx at *
            rename Hid (World.ownsRow wx _ _ _ _ _ _) => HO
            rename Hid (Below _ _ wx) => HB
            rename Hid (_ ≤ wx.heap.size) => HS
            go_upto_region 10 with fail
            have cL := l1In_any S (-1000000000) 1000000000
            cases hin : inB S (-1000000000) 1000000000
            · have hN : rN = 0 := HN0.out (allB_false hlt (by rw [← HZ.out]; exact hin))
              subst hN
              have HBe : Hid (Below w.heap.size w (wx.alloc (.cells #[] 2))) := bnext HB.out (Nat.le_refl _) (bnew _ _)
              rw [hin] at cL
              clear hin HO HN0 HN1 HG HZ
              go_wp2_with fail
              refine (cL _).mono ?_
              rintro e wy ⟨rfl, rfl⟩
              go_wp2_with fail
              go_ret
              exact ⟨_, _, 0, rfl, .inl rfl, .inl rfl, HBe.out⟩
            · have HG1 : Hid (allB (unwF m f) (k + 1) = true) := allB_step HG.out (by rw [← HZ.out]; exact hin)
              rw [hin] at cL
              clear hin HN0 HN1 HG
              go_wp2_with fail
              refine (cL _).mono ?_
              rintro e wy ⟨rfl, rfl⟩
              clear cL
              go_wp2_with (refine grow1 _ rfl _ _ rfl w.heap.size _ k (unwF m f) rfl w HO.out HB.out HS.out S HZ.out rfl HL.out ?_)
              intro v' w' ho' hb' hs'
              have HO' := hide ho'
              have HB' := hide hb'
              have HS' : Hid (w.heap.size < w'.heap.size) := Nat.lt_of_le_of_lt HS.out hs'
              clear HO HB HS ho' hb' hs' HZ
              go_wp2_with fail
              exact ⟨⟨k + 1, by omega, rfl, HO'.out, HG1.out, HB'.out, HS'.out⟩, by simp [intOf]; omega⟩
      · obtain rfl : k = len := by omega
        have hN := HN1.out hall
        clear HA HP HN0 HN1
        subst hN
        go_wp2
        go_ret
        obtain ⟨a', cap', b', rfl, ow, hB⟩ := ow_fl ho
        exact ⟨a', cap', b', rfl, ow, hB, hb⟩

theorem inB_bd {x : Int} (h1 : -1000000000 ≤ x) (h2 : x ≤ 1000000000) : inB x (-1000000000) 1000000000 = true := by
  unfold inB
  simp only [Bool.and_eq_true, decide_eq_true_eq]
  exact ⟨h1, h2⟩

set_option maxRecDepth 100000 in
set_option maxHeartbeats 1000000 in
theorem implUnwrap_any (half : Int) (a : Option Addr) (len cap : Nat) (f : Nat → Int) (hl : len ≤ 1048576) (w : World) (h : Px a len f w) :
    Calls Try.prog 12 #[.slice a len cap, .int .i64 half] w (LsR (unwN half len f) (unwF half.toNat f) w) := by
  have c := isPhase_any half a len cap f hl _ h
  by_cases h0 : len = 0
  · have hr : unwN half len f = 0 := by unfold unwN; split <;> omega
    rw [hr]
    subst h0
    clear hr h c
    go_enter Try.func12, Try.ntmps12
    go_wp2_with fail
    go_ret
    exact ⟨_, _, 0, rfl, .inl rfl, .inl rfl, Below.refl _ _⟩
  have h0' : ((len : Int) == 0) = false := by simp; omega
  have h0n : ¬ len = 0 := h0
  cases hp : phB half len f
  · have hr : unwN half len f = 0 := by unfold unwN unwB; rw [hp]; rfl
    rw [hr]
    rw [hp] at c
    clear hp h hr h0
    go_enter Try.func12, Try.ntmps12
    go_wp2_with fail
    refine c.mono ?_
    rintro e w1 ⟨rfl, rfl⟩
    go_wp2_with fail
    go_ret
    exact ⟨_, _, 0, rfl, .inl rfl, .inl rfl, Below.refl _ _⟩
  · obtain ⟨⟨m, rfl, h1, h2⟩, h4, ha⟩ := phB_parts hp
    have HN1 : Hid (allB (unwF m f) len = true → unwN m len f = len) := fun e => by unfold unwN unwB; rw [hp, Int.toNat_natCast, e]; rfl
    have HN0 : Hid (allB (unwF m f) len = false → unwN m len f = 0) := fun e => by unfold unwN unwB; rw [hp, Int.toNat_natCast, e]; rfl
    rw [hp] at c
    rw [Int.toNat_natCast]
    generalize unwN (m : Int) len f = rN at *
    have HA := hide ha
    have HP := hide h
    obtain ⟨b, off, rfl, hz⟩ := h.at (show 0 < len by omega)
    rw [Nat.add_zero] at hz
    obtain ⟨g1, g2⟩ := allB_at ha 0 (by omega)
    have HG0 : Hid (allB (unwF m f) 1 = true) := allB_step (f := unwF m f) (k := 0) rfl (inB_bd g1 g2)
    have hlp : (0 : Int) < (len : Int) := by omega
    clear hp h ha g1 g2 h0
    go_enter Try.func12, Try.ntmps12
    go_wp2_with fail
    refine c.mono ?_
    rintro e w ⟨rfl, rfl⟩
    clear c
    go_wp2_with fail
    have HB0 : Hid (Below w.heap.size w (w.alloc (.cells #[.int .i64 (f 0)] 2))) := bnew _ _
    clear hz
    go_loopw [5, 6, 7] (fun x v i wr => ∃ k j : Nat, k = j + 1 ∧ k ≤ len ∧ i = .int .i64 k ∧ x = .int .i64 (unwF m f j) ∧ wr.ownsRow w.heap.size 2 1 v k (ints (fl (unwF m f) k)) ∧ allB (unwF m f) k = true ∧ Below w.heap.size w wr ∧ w.heap.size < wr.heap.size) (fun _ _ i _ => len - (intOf i).toNat)
    case atStart => exact ⟨1, 0, rfl, by omega, rfl, rfl, World.ownsRow_lit w #[.int .i64 (f 0)] 1 (Nat.le_refl _) (by unfold maxLen; omega) rfl, HG0.out, HB0.out, by simp⟩
    case round =>
      obtain ⟨k, j, hj, hk, rfl, rfl, ho, hall, hb, hs⟩ := hrel
      clear HB0 HG0
      by_cases hlt : k < len
      · have HB := hide hb
        have HO := hide ho
        have HG := hide hall
        have HS := hide (Nat.le_of_lt hs)
        have HL : Hid (k ≤ 1048576) := by show _ ≤ _; omega
        have hjk : (j : Int) < (k : Int) := by omega
        have hjl : (j : Int) < (len : Int) := by omega
        obtain ⟨_, _, heq, hz⟩ := (HP.out.below hb).at hlt
        cases heq
        obtain ⟨_, _, heq, hy⟩ := (HP.out.below hb).at (show j < len by omega)
        cases heq
        obtain ⟨f1, f2⟩ := allB_at HA.out k hlt
        obtain ⟨f3, f4⟩ := allB_at HA.out j (by omega)
        obtain ⟨f5, f6⟩ := allB_at hall j (by omega)
        obtain ⟨D, hD⟩ : ∃ D, D = f k - f j := ⟨_, rfl⟩
        obtain ⟨S, hS⟩ : ∃ S, S = unwF m f j + wrp m D := ⟨_, rfl⟩
        have HZ : Hid (S = unwF m f k) := by show _ = _; rw [hS, hD, hj]; rfl
        have cW := wrapOne_any D m h1 h2 (by omega) (by omega)
        obtain ⟨v1, v2⟩ := wrp_bd h1 D
        generalize wrp m D = V at *
        have w1 : IntKind.i64.wrap (f k - f j) = D := by rw [IntKind.wrap_i64]; omega
        have w2 : IntKind.i64.wrap (unwF m f j + V) = S := by rw [IntKind.wrap_i64]; omega
        generalize f k = y1 at *
        generalize f j = y0 at *
        generalize unwF m f j = u at *
        have hi1 : IntKind.i64.wrap ((k : Int) - 1) = (j : Int) := by rw [IntKind.wrap_i64]; omega
        have HJ := hide hj
        clear ho hb hall HA HP hs f1 f2 f3 f4 f5 f6 v1 v2 hS hD hj
        go_upto_region 8 with fail
        have HOd : Hid (wr.drew.ownsRow w.heap.size 2 1 _ k (ints (fl (unwF m f) k))) := HO.out
        have HBd : Hid (Below w.heap.size w wr.drew) := HB.out.drew
        have HSd : Hid (w.heap.size ≤ wr.drew.heap.size) := HS.out
        clear HO HB HS
        go_region_with (go_at_call 35; refine (cW _).mono ?_; rintro e w3 ⟨rfl, rfl⟩)
        all_goals
          clear hz hy cW w1 w2
          generalize wr.drew = wx at *
          rename Hid (World.ownsRow wx _ _ _ _ _ _) => HO
          rename Hid (Below _ _ wx) => HB
          rename Hid (_ ≤ wx.heap.size) => HS
          go_upto_region 9 with fail
          have cL := within_any S (-1000000000) 1000000000
          cases hin : inB S (-1000000000) 1000000000
          · have hN : rN = 0 := HN0.out (allB_false hlt (by rw [← HZ.out]; exact hin))
            subst hN
            rw [hin] at cL
            clear hin HO HN0 HN1 HG HZ
            go_wp2_with fail
            refine (cL _).mono ?_
            rintro e wy ⟨rfl, rfl⟩
            go_wp2_with fail
            go_ret
            exact ⟨_, _, 0, rfl, .inl rfl, .inl rfl, HB.out⟩
          · have HG1 : Hid (allB (unwF m f) (k + 1) = true) := allB_step HG.out (by rw [← HZ.out]; exact hin)
            rw [hin] at cL
            clear hin HN0 HN1 HG
            go_wp2_with fail
            refine (cL _).mono ?_
            rintro e wy ⟨rfl, rfl⟩
            clear cL
            go_wp2_with (refine grow1 _ rfl _ _ rfl w.heap.size _ k (unwF m f) rfl w HO.out HB.out HS.out S HZ.out rfl HL.out ?_)
            intro v' w' ho' hb' hs'
            have HO' := hide ho'
            have HB' := hide hb'
            have HS' : Hid (w.heap.size < w'.heap.size) := Nat.lt_of_le_of_lt HS.out hs'
            clear HO HB HS ho' hb' hs'
            go_wp2_with fail
            exact ⟨⟨k + 1, k, rfl, by omega, rfl, by rw [HZ.out], HO'.out, HG1.out, HB'.out, HS'.out⟩, by simp [intOf]; omega⟩
      · obtain rfl : k = len := by omega
        have hN := HN1.out hall
        clear HA HP HN0 HN1
        subst hN
        go_wp2
        go_ret
        obtain ⟨a', cap', b', rfl, ow, hB⟩ := ow_fl ho
        exact ⟨a', cap', b', rfl, ow, hB, hb⟩

set_option maxRecDepth 100000 in
set_option maxHeartbeats 300000 in
theorem fnExactUnwrap_walk (a : Option Addr) (len cap : Nat) (f : Nat → Int) (hl : len ≤ maxLen) (half : Int) (w : World) (h : Px a len f w) :
    Calls Try.prog 8 #[.slice a len cap, .int .i64 half] w fun e w' => e = .returned (.bool true) ∧ Below w.heap.size w w' := by
  unfold maxLen at hl
  by_cases hbig : (1048576 : Int) < len
  · clear h hl
    go_enter Try.func8, Try.ntmps8
    go_wp2_with fail
    go_ret
    exact ⟨rfl, Below.refl _ _⟩
  have hL : len ≤ 1048576 := by omega
  have HP := hide h
  have cT := toInts_any a len cap f hL
  have cS := fun a' w' => specUnwrap_any half a' len len f hL w'
  have cI := fun a' w' => implUnwrap_any half a' len len f hL w'
  have cA := fun a1 a2 => eqInts_b a1 a2 len len len f hL
  have cM := fun a' b => mark_any a' b len len f 1 (by omega) (by omega) hL
  unfold LsR at cS cI
  have hrn : unwN half len f ≤ 1048576 := by
    unfold unwN
    split <;> omega
  clear h hl
  generalize unwN half len f = rN at *
  generalize unwF half.toNat f = s at *
  have cE := fun a1 a2 c1 c2 => eqInts_b a1 a2 rN c1 c2 s hrn
  have cN := fun a' b c1 => mark_any a' b rN c1 s 1 (by omega) (by omega) hrn
  have cH := fun a' b c1 => held_any a' b rN c1 1 (by omega) (by omega) hrn
  have q0 : ¬ 1 + (rN : Int) < 0 := by omega
  have q1 : (1 + (rN : Int) != 1 + (rN : Int)) = false := by simp
  have q2 : ¬ 1 + (len : Int) < 0 := by omega
  go_enter Try.func8, Try.ntmps8
  go_wp2_with fail
  refine (cT _ HP.out).mono ?_
  rintro e w1 ⟨rfl, hr, hb, hs⟩
  have HS1 := hide ((St.start w).own hb hr.v (.inr (Nat.le_refl _)))
  clear hr hb hs
  have pA := (HS1.out.nthO 0 rfl).px
  go_wp2_with fail
  refine (cS _ _ pA).mono ?_
  rintro e w2 ⟨a0, c0, b0, rfl, ho, h1, hb⟩
  have HS2 := hide (HS1.out.own hb ho.v h1)
  clear h1 ho hb HS1 pA cS
  go_wp2_with fail
  refine (cT _ (HP.out.below HS2.out.below)).mono ?_
  rintro e w3 ⟨rfl, hr, hb, hs⟩
  have HS3 := hide (HS2.out.own hb hr.v (.inr (Nat.le_refl _)))
  generalize hbx : w2.heap.size = bx at *
  clear hr hb hs HS2
  have pA := (HS3.out.nthO 0 rfl).px
  go_wp2_with fail
  refine (cI _ _ pA).mono ?_
  rintro e w4 ⟨a9, c9, b9, rfl, ho, h1, hb⟩
  have HS4 := hide (HS3.out.own hb ho.v h1)
  clear h1 ho hb HS3 pA
  have pA := (HS4.out.nthO 0 rfl).px
  have pB := (HS4.out.nthO 2 rfl).px
  go_wp2_with fail
  refine (cE _ _ _ _ _ pA pB).mono ?_
  rintro e w5 ⟨rfl, hb⟩
  have HS5 := hide (HS4.out.next hb)
  clear HS4 hb pA pB
  go_wp2_with fail
  refine (cT _ (HP.out.below HS5.out.below)).mono ?_
  rintro e w6 ⟨rfl, hr, hb, hs⟩
  have pB := hr.px
  have HS6 := hide (HS5.out.next hb)
  have pA := (HS6.out.nthO 1 rfl).px
  clear hr hb hs HS5
  go_wp2_with fail
  refine (cA _ _ _ pA pB).mono ?_
  rintro e w7 ⟨rfl, hb⟩
  have HS7 := hide (HS6.out.next hb)
  clear HS6 hb pA pB
  go_wp2_with fail
  refine (cM _ _ _ (HS7.out.nthO 1 rfl).bk.i).mono ?_
  rintro e w8 ⟨rfl, ho, hk, -⟩
  have HS8 := hide (HS7.out.mark (O1 := [_]) hk ho.v)
  clear HS7 hk ho cM
  have pA := (HS8.out.nthO 0 rfl).px
  have pB := (HS8.out.nthO 2 rfl).px
  go_wp2_with fail
  refine (cE _ _ _ _ _ pA pB).mono ?_
  rintro e w9 ⟨rfl, hb⟩
  have HS9 := hide (HS8.out.next hb)
  clear HS8 hb pA pB
  go_wp2_with fail
  refine (cN _ _ _ _ (HS9.out.nthO 0 rfl).bk.i).mono ?_
  rintro e w10 ⟨rfl, ho, hk, -⟩
  have HS10 := hide (HS9.out.mark (O1 := []) hk ho.v)
  clear HS9 ho hk
  go_wp2_with fail
  refine (cH _ _ _ _ (HS10.out.nthO 0 rfl).i).mono ?_
  rintro e w11 ⟨rfl, rfl⟩
  go_wp2_with fail
  refine (cT _ (HP.out.below HS10.out.below)).mono ?_
  rintro e w12 ⟨rfl, hr, hb, hs⟩
  have HS12 := hide (HS10.out.next hb)
  have pA := hr.px
  clear hr hb hs HS10
  go_wp2_with fail
  refine (cI _ _ pA).mono ?_
  rintro e w13 ⟨a1, c1, b1, rfl, ho, h1, hb⟩
  have HS13 := hide (HS12.out.own hb ho.v h1)
  clear h1 ho hb HS12 pA cI cT
  have pA := (HS13.out.nthO 0 rfl).px
  have pB := (HS13.out.nthO 3 rfl).px
  go_wp2_with fail
  refine (cE _ _ _ _ _ pA pB).mono ?_
  rintro e w14 ⟨rfl, hb⟩
  have HS14 := hide (HS13.out.next hb)
  clear HS13 hb pA pB
  go_wp2_with fail
  refine (cH _ _ _ _ (HS14.out.nthO 1 rfl).i).mono ?_
  rintro e w15 ⟨rfl, rfl⟩
  have HB := hide HS14.out.below
  clear HS14
  go_wp2_with fail
  go_ret
  exact ⟨rfl, HB.out⟩

end Go.Proofs.Ytlfpiifbbicbpaa

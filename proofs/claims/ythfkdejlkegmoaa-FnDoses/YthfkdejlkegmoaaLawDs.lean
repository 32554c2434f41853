/- The law on doses, walked. -/
import Derived.Test.YthfkdejlkegmoaaDth
import Derived.Test.YthfkdejlkegmoaaDoi
import Derived.Test.YthfkdejlkegmoaaDft
import Derived.Laws.AppendOwnNone
import Derived.BigRegion
namespace Go.Proofs.Ythfkdejlkegmoaa
open Go.RowKit

/-- a list of structs of sz numbers that lies somewhere is appended to one of the call's own -/
theorem growCG (w : World) {ops : Array Oper} {rest : List Oper} {o : Oper} {a : Act} {Q : Exit → Act → World → Prop} (hgd : o.guard = none) (s x : Operand) (t e : TypeId) (sz by8 : Nat) (z : Value) (ti : TypeInfo)
    (ht : Try.prog.underlying t = some (.slice e)) (hi1 : Try.prog.info? e = some ti) (hi2 : ti.zero = some z) (hi3 : ti.size = sz) (hi4 : ti.bytes = by8) (hzs : z.cells.size = sz) (h0 : 0 < sz) (h8 : by8 ≤ 1000)
    (ho : o.op = .call { callee := .builtin .append, args := #[s, x], argTypes := #[t, t] }) (B : Nat) (v : Value) (n : Nat) (L : List Int) (hs : a.eval s = v) (w0 : World) (hown : w.ownsRow B e sz v n (ints L))
    (hb : Below B w0 w) (hB : B ≤ w.heap.size) (ad : Option Addr) (m c : Nat) (f : Nat → Int) (hx : a.eval x = .slice ad m c) (hnil : ad = none → m = 0 ∧ c = 0) (hpx : Px ad (m * sz) f w) (hn : n + m ≤ 100000)
    (h : ∀ v' w', w'.ownsRow B e sz v' (n + m) (ints (L ++ fl f (m * sz))) → Below B w0 w' → wpList Try.prog ops Q rest (a.put o.dst v') w') :
    wpList Try.prog ops Q (o :: rest) a w := by
  cases ad with
  | none =>
    obtain ⟨rfl, rfl⟩ := hnil rfl
    refine wpList_append_own_none hgd s x t ho B e ti sz ht hi1 v n (ints L) hs hown hx ?_
    refine h v w ?_ hb
    rw [Nat.zero_mul]
    simpa [fl] using hown
  | some ad =>
    refine wpList_append_own _ hgd s x t ho B e ti z sz by8 ht hi1 hi2 hi3 hi4 hzs h0 v n (ints L) hs hown ad m c (ints (fl f (m * sz))) hx (by rw [ints_length, fl_len]) ?_ (ints_one _) (by unfold maxLen; omega) (Nat.le_trans (Nat.mul_le_mul hn h8) (by omega)) hB ?_
    · intro j u hu
      have hj : j < m * sz := by
        have := (List.getElem?_eq_some_iff.1 hu).1
        rwa [ints_length, fl_len] at this
      rcases hpx with h0 | ⟨b, off, ha, hc⟩
      · omega
      · cases ha
        rw [show (⟨b, off, none⟩ : Addr).add j = ⟨b, off + j, none⟩ by unfold Addr.add; split <;> simp_all, hc j hj, ← hu, ints_at _ _ (by rw [fl_len]; exact hj), fl_at _ _ _ hj]
    · intro v' w' h1 h2 _
      have hr3 : ∀ q, Value.ownBlock v = some q → B ≤ q := fun q hq => (hown.lt q hq).1
      have hB3 : Below B w w' := (Below.refl _ _).grown h2 hB hr3
      refine h v' w' ?_ (hb.trans hB3)
      rw [ints_append]; exact h1
theorem px_fl {a : Option Addr} {n : Nat} {f : Nat → Int} {w : World} (h : Px a n (fun k => (fl f n).getD k 0) w) : Px a n f w := by
  rcases h with h | ⟨b, off, ha, h⟩
  · exact .inl h
  · exact .inr ⟨b, off, ha, fun k hk => by rw [h k hk]; show some (Value.int .i64 ((fl f n).getD k 0)) = _; rw [fl_at f n k hk]⟩

set_option maxRecDepth 100000 in
set_option maxHeartbeats 1000000 in
theorem sameInts_any (a a' : Option Addr) (n c c' : Nat) (f : Nat → Int) (hl : n ≤ 1048576) (w : World) (h : Px a n f w) (h' : Px a' n f w) :
    Calls Try.prog 9 #[.slice a n c, .slice a' n c'] w fun e w' => e = .returned (.bool true) ∧ Below w.heap.size w w' := by
  have HP := hide h
  have HP' := hide h'
  clear h h'
  have q0 : ((n : Int) != (n : Int)) = false := by simp
  go_enter Try.func9, Try.ntmps9
  go_wp2_with fail
  go_loopw [5] (fun i wr => ∃ k : Nat, k ≤ n ∧ i = .int .i64 k ∧ Below w.heap.size w wr) (fun i _ => n - (intOf i).toNat)
  case atStart => exact ⟨0, by omega, rfl, Below.refl _ _⟩
  case round =>
    obtain ⟨k, hk, rfl, hb⟩ := hrel
    have HB := hide hb
    clear hb
    by_cases hlt : k < n
    · obtain ⟨b, off, rfl, hc⟩ := (HP.out.below HB.out).at hlt
      obtain ⟨b', off', rfl, hc'⟩ := (HP'.out.below HB.out).at hlt
      have q1 : (f k != f k) = false := by simp
      clear HP HP'
      generalize f k = x at *
      go_wp2_with fail
      go_region
      all_goals
        go_wp2_with fail
        exact ⟨⟨k + 1, by omega, rfl, HB.out.drew⟩, by simp [intOf]; omega⟩
    · go_wp2_with fail
      go_ret
      exact ⟨rfl, HB.out⟩

set_option maxRecDepth 100000 in
set_option maxHeartbeats 6000000 in
theorem fnDoses_walk (a : Option Addr) (len cap : Nat) (w : World) (h : Bytes a len w) :
    Calls Try.prog 3 #[.slice a len cap] w fun e w' => e = .returned (.bool true) ∧ Below w.heap.size w w' := by
  have cB := big_any a len cap w
  have cD := drawFits_any a len cap w h
  unfold DFR at cD
  clear h
  cases hbig : decide (1048576 < len)
  case true =>
    rw [hbig] at cB
    clear hbig cD
    go_enter Try.func3, Try.ntmps3
    go_wp2_with fail
    refine cB.mono ?_
    rintro e w1 ⟨rfl, rfl⟩
    clear cB
    go_wp2_with fail
    go_ret
    exact ⟨rfl, Below.refl _ _⟩
  rw [hbig] at cB
  clear hbig
  go_enter Try.func3, Try.ntmps3
  go_wp2_with fail
  refine cB.mono ?_
  rintro e w1 ⟨rfl, rfl⟩
  clear cB
  go_wp2_with fail
  refine cD.mono ?_
  rintro e w2 ⟨ad, m, cp, f, b, m2, cp2, f2, rfl, hm, hnil, hpx, hm2, hpx2, hb⟩
  have HN := hide hnil
  have HB2 := hide hb
  have HP2 := hide hpx
  have HL2 := hide hpx2
  clear cD hnil hb hpx hpx2
  by_cases h32 : m2 = 32
  case neg =>
    have q : ((m2 : Int) != 32) = true := by simp; omega
    clear HN HP2 HL2
    go_wp2_with fail
    go_ret
    exact ⟨rfl, HB2.out⟩
  subst h32
  have cS := specDoseBook_any ad m cp f (by omega) w2 HP2.out
  unfold LsRI at cS
  cases hex : exB m f
  · have e1 : dbN m f = 0 := by unfold dbN; rw [hex]; rfl
    rw [e1] at cS
    clear HN HP2 HL2 hex e1
    go_wp2_with fail
    refine cS.mono ?_
    rintro e w3 ⟨a3, c3, b3, rfl, -, -, hb3⟩
    have HF := hide (bnext HB2.out (Nat.le_refl _) hb3)
    clear cS hb3
    go_wp2_with fail
    go_ret
    exact ⟨rfl, HF.out⟩
  have e1 : dbN m f = 32 := by unfold dbN; rw [hex]; rfl
  rw [e1] at cS
  have hexA : exA f m = true := by unfold exB at hex; rw [Bool.and_eq_true] at hex; exact hex.2
  have HEX := hide hex
  have HEA := hide hexA
  clear e1 hex hexA
  go_wp2_with fail
  refine cS.mono ?_
  rintro e w3 ⟨a3, c3, b3, rfl, -, -, hb3⟩
  have HP3 := hide (HP2.out.below hb3)
  have HL3 := hide (HL2.out.below hb3)
  have HB3 := hide (bnext HB2.out (Nat.le_refl _) hb3)
  clear cS hb3 HP2 HL2 HB2
  go_wp2_with fail
  go_loop [7] (fun i => ∃ k : Nat, k ≤ 32 ∧ i = .int .i64 k ∧ alW f2 0 1000000000000 k = true) (fun i => 32 - (intOf i).toNat)
  case atStart => exact ⟨0, by omega, rfl, rfl⟩
  case round =>
    obtain ⟨k, hk, rfl, hal⟩ := hrel
    have HAL := hide hal
    clear hal
    by_cases hlt : k < 32
    · obtain ⟨b', off, hbe, hc⟩ := HL3.out.at hlt
      cases hbe
      rw [Nat.zero_add] at hc
      have HI : Hid (inB (f2 k) 0 1000000000000 = true ↔ 0 ≤ f2 k ∧ f2 k ≤ 1000000000000) := by show _ ↔ _; unfold inB; simp
      have HST := hide (fun h => alW_step (f := f2) (lo := 0) (hi := 1000000000000) HAL.out h)
      generalize f2 k = x at *
      by_cases h1 : x < 0
      · clear HP3 HL3 HAL HN
        go_wp2_with fail
        go_ret
        exact ⟨rfl, HB3.out⟩
      · by_cases h2 : 1000000000000 < x
        · clear HP3 HL3 HAL HN
          go_wp2_with fail
          go_ret
          exact ⟨rfl, HB3.out⟩
        · have HT := hide (HST.out (HI.out.2 ⟨by omega, by omega⟩))
          clear HP3 HL3 HAL HN HST HI
          go_wp2_with fail
          exact ⟨⟨k + 1, by omega, rfl, HT.out⟩, by simp [intOf]; omega⟩
    · obtain rfl : k = 32 := by omega
      clear hlt hk
      have hft : ftB m f 32 f2 = true := by unfold ftB; rw [HEX.out, HAL.out]; rfl
      have HFT : Hid (ftL m f 32 f2 = (ftS f f2 m).2) := by show _ = _; unfold ftL; rw [hft]; rfl
      clear hft HAL
      have hb4 := bnew w3 (.cells #[] 32)
      have HO4 : Hid ((w3.alloc (.cells #[] 32)).ownsRow w3.heap.size 32 2 (.slice (some ⟨w3.heap.size, 0, none⟩) 0 0) 0 (ints [])) := World.ownsRow_lit w3 #[] 0 (Nat.le_refl _) (by unfold maxLen; omega) rfl
      have HP4 := hide (HP3.out.below hb4)
      have HB4 := hide hb4
      have hs4 : w3.heap.size ≤ (w3.alloc (.cells #[] 32)).heap.size := hb4.size
      obtain ⟨ti, hi1, hi2, hi3, hi4⟩ := infoE
      obtain ⟨tj, hj1, hj2, hj3, hj4⟩ := info2
      clear hb4
      go_wp2_with (refine growCG _ rfl _ _ 24 32 2 16 (vExp 0 0) ti Try.underlying24 hi1 hi2 hi3 hi4 rfl (by omega) (by omega) rfl w3.heap.size _ 0 [] rfl w3 HO4.out HB4.out hs4 ad m cp f rfl HN.out HP4.out (by omega) ?_)
      intro v5 w5 ho5 hb5
      obtain ⟨ad5, cp5, rfl, -, hp5⟩ := own_pxG ho5
      have HQ5 := hide (px_fl hp5)
      have HP5 := hide (HP3.out.below hb5)
      have HL5 := hide (HL3.out.below hb5)
      have HB5 := hide (bnext HB3.out (Nat.le_refl _) hb5)
      clear ho5 hb5 hp5 HO4 HP4 HB4 hs4 HP3 HL3 HB3 HN
      have hb6 := bnew w5 (.cells #[] 2)
      have HO6 : Hid ((w5.alloc (.cells #[] 2)).ownsRow w5.heap.size 2 1 (.slice (some ⟨w5.heap.size, 0, none⟩) 0 0) 0 (ints [])) := World.ownsRow_lit w5 #[] 0 (Nat.le_refl _) (by unfold maxLen; omega) rfl
      have HL6 := hide (HL5.out.below hb6)
      have HB6 := hide hb6
      have hs6 : w5.heap.size ≤ (w5.alloc (.cells #[] 2)).heap.size := hb6.size
      have HL6' : Hid (Px (some ⟨b, 0, none⟩) (32 * 1) f2 (w5.alloc (.cells #[] 2))) := HL6.out
      clear hb6 HL6
      go_wp2_with (refine growCG _ rfl _ _ 25 2 1 8 (.int .i64 0) tj Try.underlying25 hj1 hj2 hj3 hj4 rfl (by omega) (by omega) rfl w5.heap.size _ 0 [] rfl w5 HO6.out HB6.out hs6 (some ⟨b, 0, none⟩) 32 cp2 f2 rfl (fun h => by cases h) HL6'.out (by omega) ?_)
      intro v7 w7 ho7 hb7
      obtain ⟨ad7, cp7, rfl, -, hp7⟩ := own_pxG ho7
      have HM7 : Hid (Px ad7 32 f2 w7) := px_fl (n := 32) hp7
      have HQ7 := hide (HQ5.out.below hb7)
      have HP7 := hide (HP5.out.below hb7)
      have HL7 := hide (HL5.out.below hb7)
      have HB7 := hide (bnext HB5.out (Nat.le_refl _) hb7)
      clear ho7 hb7 hp7 HO6 HL6' HB6 hs6 HP5 HL5 HB5 HQ5 hi1 hi2 hi3 hi4 hj1 hj2 hj3 hj4
      have cF := implFits_any ad5 m cp5 f (by omega) ad7 32 cp7 f2 (by omega) w7 HQ7.out HM7.out
      rw [HFT.out] at cF
      unfold FtR at cF
      clear HFT HQ7 HM7
      go_wp2_with fail
      refine cF.mono ?_
      rintro e w8 ⟨a8, c8, b8, r, hr, rfl, hO8, -, hb8⟩
      have HR := hide hr
      have HG8 := hide hO8.px
      have HP8 := hide (HP7.out.below hb8)
      have HL8 := hide (HL7.out.below hb8)
      have HB8 := hide (bnext HB7.out (Nat.le_refl _) hb8)
      clear cF hr hO8 hb8 HP7 HL7 HB7
      have HBK := hide (ft_book (lim := f2) HEA.out r HR.out)
      have hrm : r ≤ 13 := by
        obtain ⟨r', h1, h2⟩ := ft_len f f2 m
        have := HR.out
        omega
      have hmk := make_px 32 (by omega) w8
      have e32 : ((32 : Nat) : Int) = 32 := rfl
      rw [e32] at hmk
      have hr9 := row_new 32 w8
      obtain ⟨w9, hw9⟩ : ∃ w9, w9 = w8.alloc (.cells (madeCells #[.int .i64 0] 32) 2) := ⟨_, rfl⟩
      have hb9 : Below w8.heap.size w8 w9 := by rw [hw9]; exact bnew _ _
      have hs9 : w8.heap.size < w9.heap.size := by rw [hw9]; simp
      rw [← hw9] at hmk hr9
      have HR9 := hide hr9
      have HB9 := hide hb9
      clear hr9 hw9 hb9 e32
      go_wp2_with fail
      clear hmk
      go_loopw [10, 11, 12] (fun c i _ wr => ∃ (k t : Nat), k ≤ m ∧ i = .int .i64 k ∧ c = .int .i64 t ∧ (ftS f f2 k).2.length = t * 2 ∧ Row w8.heap.size 32 (ftS f f2 k).1 wr ∧ Below w8.heap.size w8 wr ∧ w8.heap.size < wr.heap.size) (fun _ i _ _ => m - (intOf i).toNat)
      case atStart => exact ⟨0, 0, by omega, rfl, rfl, rfl, HR9.out, HB9.out, hs9⟩
      case round =>
        obtain ⟨k, t, hk, rfl, rfl, ht, hrw, hbw, hsw⟩ := hrel
        have HRW := hide hrw
        have HBW := hide hbw
        have HT := hide ht
        clear hrw hbw HR9 HB9 hs9 ht
        by_cases hlt : k < m
        · obtain ⟨bE, offE, rfl, -, z0, z1⟩ := (HP8.out.below HBW.out).atExp hlt
          obtain ⟨⟨o, ho, ho32⟩, am0, am1⟩ := exA_at HEA.out hlt
          have hbd := ft_bound (lim := f2) (exA_le HEA.out (Nat.le_of_lt hlt)) o
          obtain ⟨y0, yf⟩ := HRW.out o ho32
          obtain ⟨bL, offL, hbe, l0⟩ := (HL8.out.below HBW.out).at ho32
          cases hbe
          rw [Nat.zero_add] at l0
          rw [ho] at z0
          by_cases hle : (ftS f f2 k).1 o + f (k * 2 + 1) ≤ f2 o
          · have hy := ft_yes ho hle
            have hpre := ft_pre (g := f) (lim := f2) (show k + 1 ≤ m by omega)
            rw [hy] at hpre
            dsimp only at hpre
            have hle2 := hpre.length_le
            have HRl := HR.out
            have HTl := HT.out
            rw [List.length_append, HTl, HRl] at hle2
            simp only [List.length_cons, List.length_nil] at hle2
            have htr : t < r := by omega
            have hg0 : (ftS f f2 m).2.getD (t * 2) 0 = (o : Int) := by
              rw [pre_getD hpre (by rw [List.length_append, HTl]; simp), List.getD_eq_getElem?_getD, List.getElem?_append_right (by omega), HTl, Nat.sub_self]
              simp
            have hg1 : (ftS f f2 m).2.getD (t * 2 + 1) 0 = f (k * 2 + 1) := by
              rw [pre_getD hpre (by rw [List.length_append, HTl]; simp), List.getD_eq_getElem?_getD, List.getElem?_append_right (by omega), HTl]
              simp
            have HT2 : Hid ((ftS f f2 (k + 1)).2.length = (t + 1) * 2) := by show _ = _; rw [hy]; dsimp only; rw [List.length_append, HTl]; simp; omega
            have HRU : Hid (∀ v : Int, v = (ftS f f2 k).1 o + f (k * 2 + 1) → Row w8.heap.size 32 (ftS f f2 (k + 1)).1 (wr.drew.drew.setCell ⟨w8.heap.size, o, none⟩ (.int .i64 v))) := fun v hv => by
              rw [hy]
              dsimp only
              rw [hv]
              exact Row.upd (w := wr.drew.drew) HRW.out ho32 _
            have HBU : Hid (∀ v : Value, Below w8.heap.size w8 (wr.drew.drew.setCell ⟨w8.heap.size, o, none⟩ v)) := fun v => HBW.out.drew.drew.setCell (Nat.le_refl _) v
            have HSU : Hid (∀ v : Value, w8.heap.size < (wr.drew.drew.setCell ⟨w8.heap.size, o, none⟩ v).heap.size) := fun v => by simpa using hsw
            clear hy hpre hle2 HRl HTl HRW HBW HT
            have HS0 : Hid ((ftS f f2 k).1 o + f (k * 2 + 1) ≤ 100000000) := by have := hbd.2; show _ ≤ _; omega
            generalize (ftS f f2 k).1 o = s0 at *
            generalize ham : f (k * 2 + 1) = am at *
            have HAM := hide ham
            clear ham
            generalize f2 o = li at *
            go_upto_region 21 with fail
            go_region
            all_goals
              go_upto_region 22 with fail
              go_cut [] (fun wc => Row w8.heap.size 32 (ftS f f2 (k + 1)).1 wc ∧ Below w8.heap.size w8 wc ∧ w8.heap.size < wc.heap.size)
              case first =>
                go_region
                all_goals
                  go_wp2_with fail
                  go_meet
                  exact ⟨HRU.out _ rfl, HBU.out _, HSU.out _⟩
              case rest =>
                obtain ⟨hrc, hbc, hsc⟩ := hcut
                have HRC := hide hrc
                have HBC := hide hbc
                clear hrc hbc HRU HBU HSU y0 yf l0 z0 z1
                obtain ⟨bE', offE', hbe, -, z0, z1⟩ := (HP8.out.below HBC.out).atExp hlt
                cases hbe
                obtain ⟨bG, offG, rfl, -, u0, u1⟩ := (HG8.out.below HBC.out).atExp htr
                rw [ho] at z0
                rw [HAM.out] at z1
                rw [hg0] at u0
                rw [hg1] at u1
                have hkd : decide (r ≤ t) = false := decide_eq_false (by omega)
                have hkd2 : ¬ (r : Int) ≤ (t : Int) := by omega
                have HBd : Hid (∀ d, Below w8.heap.size w8 (wc.drewN d)) := fun d => ⟨HBC.out.os, HBC.out.tape, HBC.out.output, HBC.out.size, HBC.out.block⟩
                have HRd : Hid (∀ d, Row w8.heap.size 32 (ftS f f2 (k + 1)).1 (wc.drewN d)) := fun d => HRC.out
                clear HP8 HG8 HL8 hg0 hg1 HAM ho HRC HBC
                go_wp2_with fail
                go_quiet (fail)
                go_wp2_with fail
                exact ⟨⟨k + 1, t + 1, by omega, rfl, rfl, HT2.out, HRd.out nq, HBd.out nq, hsc⟩, by simp [intOf]; omega⟩
          · have HNO := hide (ft_no ho hle)
            have HRd : Hid (Row w8.heap.size 32 (ftS f f2 k).1 wr.drew) := HRW.out
            have HBd : Hid (Below w8.heap.size w8 wr.drew) := HBW.out.drew
            clear HRW HBW
            generalize (ftS f f2 k).1 o = s0 at *
            generalize f (k * 2 + 1) = am at *
            generalize f2 o = li at *
            go_wp2_with fail
            go_region
            all_goals
              go_wp2_with fail
              exact ⟨⟨k + 1, t, by omega, rfl, rfl, by rw [HNO.out]; exact HT.out, by rw [HNO.out]; exact HRd.out, HBd.out, hsw⟩, by simp [intOf]; omega⟩
        · obtain rfl : k = m := by omega
          obtain rfl : t = r := by have := HR.out; have := HT.out; omega
          obtain ⟨x1, x2⟩ := HBK.out
          have hG := HG8.out.below HBW.out
          have cI := implDoseBook_any a8 t c8 (fun q => (ftS f f2 k).2.getD q 0) (by omega) wr hG
          unfold LsRI at cI
          have hx : exB t (fun q => (ftS f f2 k).2.getD q 0) = true := by unfold exB; rw [x1, decide_eq_true (by omega)]; rfl
          have e1 : dbN t (fun q => (ftS f f2 k).2.getD q 0) = 32 := by unfold dbN; rw [hx]; rfl
          have e2 : dbC t (fun q => (ftS f f2 k).2.getD q 0) = amS (fun q => (ftS f f2 k).2.getD q 0) t := by unfold dbC; rw [hx]; rfl
          have HTT : Hid (Lnm.sm (ftS f f2 k).1 32 = amS (fun q => (ftS f f2 k).2.getD q 0) t) := by
            show _ = _
            rw [← x2]; exact bk_total x1
          have HBO := hide (fun o => ft_bound (lim := f2) HEA.out o (k := k))
          rw [e1, e2, x2, ← HTT.out] at cI
          clear hx e1 e2 x1 x2 HBK HG8 HL8 HP8 HEX HEA HR HT hG
          generalize (ftS f f2 k).1 = S at *
          go_wp2_with fail
          refine cI.mono ?_
          rintro e w10 ⟨a10, c10, b10, rfl, hO10, -, hb10⟩
          have HO10 := hide hO10.px
          have HR10 := hide (HRW.out.below hb10 hsw)
          have HF10 := hide (bnext HB8.out (Nat.le_refl _) (bnext HBW.out (Nat.le_refl _) hb10))
          clear cI hO10 hb10 HRW HBW HTT
          go_wp2_with fail
          go_loop [15, 16] (fun c i => ∃ q : Nat, q ≤ 32 ∧ i = .int .i64 q ∧ c = .int .i64 (Lnm.sm S q)) (fun _ i => 32 - (intOf i).toNat)
          case atStart => exact ⟨0, by omega, rfl, rfl⟩
          case round =>
            obtain ⟨q, hq, rfl, rfl⟩ := hrel
            have hsb : 0 ≤ Lnm.sm S q ∧ Lnm.sm S q ≤ 100000000 * (q : Int) := by
              clear hq
              induction q with
              | zero => simp [Lnm.sm]
              | succ q ih => have := HBO.out q; simp only [Lnm.sm]; omega
            by_cases hq2 : q < 32
            · obtain ⟨y0, -⟩ := HR10.out q hq2
              have hsq := HBO.out q
              have HK : Hid (Lnm.sm S (q + 1) = Lnm.sm S q + S q) := rfl
              clear HO10 HR10 HBO
              generalize Lnm.sm S q = c at *
              generalize S q = y at *
              go_wp2_with fail
              exact ⟨⟨q + 1, by omega, rfl, by rw [HK.out]⟩, by simp [intOf]; omega⟩
            · obtain rfl : q = 32 := by omega
              have cM := sameInts_any a10 (some ⟨w8.heap.size, 0, none⟩) 32 c10 32 S (by omega) w10 HO10.out HR10.out.px
              clear HO10 HR10 HBO
              generalize Lnm.sm S 32 = c at *
              go_wp2_with fail
              refine cM.mono ?_
              rintro e w11 ⟨rfl, hb11⟩
              have HF11 := hide (bnext HF10.out (Nat.le_refl _) hb11)
              clear cM hb11 HF10
              go_wp2_with fail
              go_ret
              exact ⟨by simp, HF11.out⟩

end Go.Proofs.Ythfkdejlkegmoaa

/- A frame with no common divisor, by the specification: there is room for nine. -/
import Derived.Test.YtjdbiaoheoialaaLr7
namespace Go.Proofs.Ytjdbiaoheoialaa
open Go.RowKit

theorem own_row7c {w : World} {B n : Nat} {v : Value} {L : List Int} (h : w.ownsRow B 2 1 v n (ints L)) (hn : 0 < n) : ∃ b cap, v = .slice (some ⟨b, 0, none⟩) n cap ∧ B ≤ b ∧ Row b n (fun k => L.getD k 0) w ∧ n ≤ cap := by
  obtain ⟨b, cap, hv, hB, hr⟩ := own_row7 h hn
  refine ⟨b, cap, hv, hB, hr, ?_⟩
  obtain ⟨_, ⟨_, h0⟩ | ⟨g, cap', cur, hv', _, _, h1, _⟩⟩ := h
  · omega
  · rw [hv] at hv'
    cases hv'
    exact h1
/-- the frame that is answered, and whether it is one; there is room for nine -/
def FrC (D : Int) (M T : Nat → Int) (w : World) (e : Ending) (w' : World) : Prop :=
  (frmB D 9 M 3 T = true ∧ ∃ b0 c0 b1 c1, e = .returned (.tuple #[vFrame D (some ⟨b0, 0, none⟩) 9 c0 (some ⟨b1, 0, none⟩) 3 c1, .bool true]) ∧ w.heap.size ≤ b0 ∧ w.heap.size ≤ b1 ∧ b0 ≠ b1 ∧ Row b0 9 M w' ∧ Row b1 3 T w' ∧ Below w.heap.size w w' ∧ 9 ≤ c0) ∨
  (frmB D 9 M 3 T = false ∧ e = .returned (.tuple #[vFrame 0 none 0 0 none 0 0, .bool false]) ∧ Below w.heap.size w w')

set_option maxRecDepth 100000 in
set_option maxHeartbeats 8000000 in
theorem l7RightC_any (am : Option Addr) (cm : Nat) (M : Nat → Int) (at' : Option Addr) (ct : Nat) (T : Nat → Int) (d : Int) (hd : d ≠ 0) (hdb : d.natAbs ≤ 9000000000000000000) (hM : ∀ k, k < 9 → (M k).natAbs ≤ 9000000000000000000) (hT : ∀ k, k < 3 → (T k).natAbs ≤ 9000000000000000000) (w : World) (h : Px am 9 M w) (h' : Px at' 3 T w) :
    Calls Try.prog 19 #[.slice am 9 cm, .slice at' 3 ct, .int .i64 d] w (FrC (d.tdiv (rgS d M T)) (dvF M (rgS d M T)) (dvF T (rgS d M T)) w) := by
  have HX0 : Hid (Bx w.heap.size [.slice none 0 0, .slice none 0 0, .int .i64 0] (w.alloc (.cells #[.slice none 0 0, .slice none 0 0, .int .i64 0] 26))) := Bx.new [.slice none 0 0, .slice none 0 0, .int .i64 0] 26 w
  have HB1 : Hid (Below w.heap.size w (w.alloc (.cells #[.slice none 0 0, .slice none 0 0, .int .i64 0] 26))) := bnew _ _
  have HZ1 : Hid ((w.alloc (.cells #[.slice none 0 0, .slice none 0 0, .int .i64 0] 26)).heap.size = w.heap.size + 1) := by show _ = _; simp
  have HPM := hide (h.below HB1.out)
  have HPT := hide (h'.below HB1.out)
  have HBM := hide hM
  have HBT := hide hT
  have HRG := hide (rg_bd hd M)
  have HRG2 := hide (rg_bd (rg_bd hd M 9).1 T)
  have HRS := hide (rgS_ne hd M T)
  have HDB := hide hdb
  obtain ⟨gs, hgs⟩ : ∃ gs, gs = rgS d M T := ⟨_, rfl⟩
  rw [← hgs]
  rw [← hgs] at HRS
  have HGS0 : Hid (gs = if d < 0 then -(rg (rg d M 9) T 3) else rg (rg d M 9) T 3) := hgs
  obtain ⟨D', hD'⟩ : ∃ D', D' = d.tdiv gs := ⟨_, rfl⟩
  have kD := Int.natAbs_tdiv_le_natAbs d gs
  rw [← hD'] at kD
  have HED : Hid (IntKind.i64.wrap (d.tdiv gs) = D') := by show _ = _; rw [IntKind.wrap_i64, ← hD']; omega
  rw [← hD']
  clear h h' hM hT hdb hgs hD' kD
  go_enter Try.func19, Try.ntmps19
  go_upto_region 1 with fail
  generalize hw1 : w.alloc (.cells #[.slice none 0 0, .slice none 0 0, .int .i64 0] 26) = w1 at *
  clear hw1
  go_wp2_with fail
  go_loopw [8, 9] (fun g i wr => ∃ k : Nat, k ≤ 9 ∧ i = .int .i64 k ∧ g = .int .i64 (rg d M k) ∧ w1 = wr) (fun _ i _ => 9 - (intOf i).toNat)
  case atStart => exact ⟨0, by omega, rfl, rfl, rfl⟩
  case round =>
    obtain ⟨k, hk, rfl, rfl, rfl⟩ := hrel
    by_cases hlt : k < 9
    · obtain ⟨b, off, rfl, hz⟩ := HPM.out.at hlt
      have hki : (k : Int) < 9 := by omega
      have c := l7Gcd_any (rg d M k) (M k) (by have := HRG.out k; have := HDB.out; omega) (by have := HRG.out k; have := HDB.out; omega) (by have := HBM.out k hlt; omega) (by have := HBM.out k hlt; omega) w1
      go_wp2_with fail
      refine c.mono ?_
      rintro e w2 ⟨rfl, hw2⟩
      obtain rfl := hw2.symm
      clear c
      go_wp2_with fail
      exact ⟨⟨k + 1, by omega, by simp, rfl, trivial⟩, by simp [intOf] <;> omega⟩
    · have hk9 : k = 9 := by omega
      have hki : ¬ (k : Int) < 9 := by omega
      rw [show rg d M k = rg d M 9 by rw [hk9]]
      clear hk9
      go_wp2_with fail
      go_loopw [8, 10] (fun g i wr => ∃ k : Nat, k ≤ 3 ∧ i = .int .i64 k ∧ g = .int .i64 (rg (rg d M 9) T k) ∧ w1 = wr) (fun _ i _ => 3 - (intOf i).toNat)
      case atStart => exact ⟨0, by omega, rfl, rfl, rfl⟩
      case round =>
        obtain ⟨k, hk, rfl, rfl, rfl⟩ := hrel
        by_cases hlt : k < 3
        · obtain ⟨b, off, rfl, hz⟩ := HPT.out.at hlt
          have hki : (k : Int) < 3 := by omega
          have c := l7Gcd_any (rg (rg d M 9) T k) (T k) (by have := HRG2.out k; have := HRG.out 9; have := HDB.out; omega) (by have := HRG2.out k; have := HRG.out 9; have := HDB.out; omega) (by have := HBT.out k hlt; omega) (by have := HBT.out k hlt; omega) w1
          go_wp2_with fail
          refine c.mono ?_
          rintro e w2 ⟨rfl, hw2⟩
          obtain rfl := hw2.symm
          clear c
          go_wp2_with fail
          exact ⟨⟨k + 1, by omega, by simp, rfl, trivial⟩, by simp [intOf] <;> omega⟩
        · have hk3 : k = 3 := by omega
          have hki : ¬ (k : Int) < 3 := by omega
          rw [show rg (rg d M 9) T k = rg (rg d M 9) T 3 by rw [hk3]]
          clear hk3
          have HG3 : Hid (rg (rg d M 9) T 3 ≠ 0 ∧ (rg (rg d M 9) T 3).natAbs ≤ 9000000000000000000) := by
            have h1 := HRG2.out 3
            have h2 := HRG.out 9
            have h3 := HDB.out
            exact ⟨h1.1, by omega⟩
          have HGS := HGS0
          clear HGS0
          generalize rg (rg d M 9) T 3 = G3 at *
          go_upto_if 36 with fail
          go_cut [8, 56, 71] (fun s g g' wc => g = undef ∧ g' = undef ∧ s = .int .i64 gs ∧ w1 = wc)
          case first =>
            by_cases hneg : d < 0
            · have e1 : IntKind.i64.wrap (-G3) = -G3 := by have := HG3.out; rw [IntKind.wrap_i64]; omega
              have HE : Hid (gs = -G3) := HGS.out.trans (if_pos hneg)
              go_wp2_with fail
              go_meet
              exact ⟨rfl, rfl, by rw [HE.out], rfl⟩
            · have HE : Hid (gs = G3) := HGS.out.trans (if_neg hneg)
              go_wp2_with fail
              go_meet
              exact ⟨rfl, rfl, by rw [HE.out], rfl⟩
          case rest =>
            obtain ⟨rfl, rfl, rfl, hwc⟩ := hcut
            subst hwc
            have eD := HED.out
            have hg0 : (gs == 0) = false := by have := HRS.out.1; simp; omega
            have hg1 : ¬ gs = 0 := HRS.out.1
            clear HG3 HGS HRG HRG2 HED
            have hb2 := bnew w1 (.cells #[.slice none 0 0, .slice none 0 0, .int .i64 D'] 26)
            have BQ2 : Hid (Bx w1.heap.size [.slice none 0 0, .slice none 0 0, .int .i64 D'] (w1.alloc (.cells #[.slice none 0 0, .slice none 0 0, .int .i64 D'] 26))) := Bx.new [.slice none 0 0, .slice none 0 0, .int .i64 D'] 26 w1
            have HX2 := hide (HX0.out.below hb2 (by have := HZ1.out; omega))
            obtain ⟨bm, om, rfl, -⟩ := HPM.out.at (show 0 < 9 by omega)
            obtain ⟨bt, ot, rfl, -⟩ := HPT.out.at (show 0 < 3 by omega)
            have HM2 : Hid (∀ k, k < 9 → (w1.alloc (.cells #[.slice none 0 0, .slice none 0 0, .int .i64 D'] 26)).cell? ⟨bm, om + k, none⟩ = some (.int .i64 (M k))) := fun k hk => by
              obtain ⟨_, _, e, hz⟩ := (HPM.out.below hb2).at hk
              cases e
              exact hz
            have HT2 : Hid (∀ k, k < 3 → (w1.alloc (.cells #[.slice none 0 0, .slice none 0 0, .int .i64 D'] 26)).cell? ⟨bt, ot + k, none⟩ = some (.int .i64 (T k))) := fun k hk => by
              obtain ⟨_, _, e, hz⟩ := (HPT.out.below hb2).at hk
              cases e
              exact hz
            have HQM : Hid (bm < w1.heap.size) := by
              obtain ⟨_, _, e, hz⟩ := HPM.out.at (show 0 < 9 by omega)
              cases e
              exact World.block_lt_of_cell? _ _ hz
            have HQT : Hid (bt < w1.heap.size) := by
              obtain ⟨_, _, e, hz⟩ := HPT.out.at (show 0 < 3 by omega)
              cases e
              exact World.block_lt_of_cell? _ _ hz
            have HB2 := hide (HB1.out.trans (hb2.mono HB1.out.size))
            have HZ2 : Hid ((w1.alloc (.cells #[.slice none 0 0, .slice none 0 0, .int .i64 D'] 26)).heap.size = w1.heap.size + 1) := by show _ = _; simp
            clear hb2 HX0 HPM HPT HB1
            go_upto_region 13 with fail
            clear eD
            generalize hw2 : w1.alloc (.cells #[.slice none 0 0, .slice none 0 0, .int .i64 D'] 26) = w2 at *
            clear hw2
            generalize w1.heap.size = q at *
            obtain ⟨ti, hi1, hi2, hi3, hi4⟩ := info2
            have HI1 := hide hi1
            clear hi1
            go_wp2_with fail
            go_loopw [12, 56] (fun i g wr => ∃ (k : Nat) (L : List Int) (af : Option Addr) (cf : Nat), i = .int .i64 k ∧ ¬ Grw L g ∧ L.length = k ∧ k ≤ 9 ∧ (∀ j, j < k → L.getD j 0 = dvF M gs j) ∧ Kept q w2 wr ∧ Bx q [.slice af L.length cf, .slice none 0 0, .int .i64 D'] wr ∧ wr.ownsRow w2.heap.size 2 1 (.slice af L.length cf) L.length (ints L)) (fun i _ _ => 9 - (intOf i).toNat)
            case atStart => exact ⟨0, [], none, 0, rfl, (fun ⟨_, _, h⟩ => by simp [undef] at h), rfl, by omega, fun j hj => by omega, Kept.refl _ _, BQ2.out, ⟨rfl, .inl ⟨rfl, rfl⟩⟩⟩
            case round =>
              obtain ⟨k, L, af, cf, rfl, hg, hLk, hkn, hLd, hk, hb5, ho⟩ := hrel
              have HLk := hide hLk
              have HKR := hide hk
              have HB5 := hide hb5
              have HOW := hide ho
              have HG := hide hg
              have HLD := hide hLd
              clear hLk hk hb5 ho hg hLd
              by_cases hlt : k < 9
              · have hki : (k : Int) < 9 := by omega
                go_upto_region 16 with fail
                have kz := Int.natAbs_tdiv_le_natAbs (M k) gs
                obtain ⟨z, hz⟩ : ∃ z, z = (M k).tdiv gs := ⟨_, rfl⟩
                rw [← hz] at kz
                have ez : IntKind.i64.wrap ((M k).tdiv gs) = z := by have := HBM.out k hlt; rw [IntKind.wrap_i64, ← hz]; omega
                have HZZ : Hid (dvF M gs k = z) := hz.symm
                clear kz hz
                have HZ9 : Hid (w2.heap.size ≤ wr.heap.size) := HKR.out.size
                have HQZ : Hid (q < w2.heap.size ∧ bm < w2.heap.size) := ⟨by have := HZ2.out; omega, by have := HZ2.out; have := HQM.out; omega⟩
                have HCR : Hid (wr.cell? ⟨bm, om + k, none⟩ = some (.int .i64 (M k))) := HKR.out.cell (a := ⟨bm, om + k, none⟩) (by show bm ≠ q; have := HQM.out; omega) (HM2.out k hlt)
                obtain ⟨G, hG⟩ : ∃ G : Nat → Value → Prop, G = (fun j v => match j with | 0 => v = .pointer (some ⟨q, 0, none⟩) | 1 => v = .slice af L.length cf | 2 => v = .slice (some ⟨bm, om, none⟩) 9 cm | 3 => v = .int .i64 (k : Int) | 4 => v = .pointer (some ⟨bm, om + k, none⟩) | 5 => v = .int .i64 (M k) | 6 => v = .int .i64 gs | 7 => v = .int .i64 z | 10 => v = .pointer (some ⟨q, 0, none⟩) | _ => True) := ⟨_, rfl⟩
                have G0 : Hid (∀ v, G 0 v ↔ v = .pointer (some ⟨q, 0, none⟩)) := fun v => by rw [hG]; exact Iff.rfl
                have G1 : Hid (∀ v, G 1 v ↔ v = .slice af L.length cf) := fun v => by rw [hG]; exact Iff.rfl
                have G2 : Hid (∀ v, G 2 v ↔ v = .slice (some ⟨bm, om, none⟩) 9 cm) := fun v => by rw [hG]; exact Iff.rfl
                have G3 : Hid (∀ v, G 3 v ↔ v = .int .i64 (k : Int)) := fun v => by rw [hG]; exact Iff.rfl
                have G4 : Hid (∀ v, G 4 v ↔ v = .pointer (some ⟨bm, om + k, none⟩)) := fun v => by rw [hG]; exact Iff.rfl
                have G5 : Hid (∀ v, G 5 v ↔ v = .int .i64 (M k)) := fun v => by rw [hG]; exact Iff.rfl
                have G6 : Hid (∀ v, G 6 v ↔ v = .int .i64 gs) := fun v => by rw [hG]; exact Iff.rfl
                have G7 : Hid (∀ v, G 7 v ↔ v = .int .i64 z) := fun v => by rw [hG]; exact Iff.rfl
                have G8 : Hid (∀ v, G 8 v) := fun v => by rw [hG]; trivial
                have G9 : Hid (∀ v, G 9 v) := fun v => by rw [hG]; trivial
                have G10 : Hid (∀ v, G 10 v ↔ v = .pointer (some ⟨q, 0, none⟩)) := fun v => by rw [hG]; exact Iff.rfl
                have G11 : Hid (∀ v, G 11 v) := fun v => by rw [hG]; trivial
                clear hG
                refine region_opsU (gR 9 11 w2.heap.size wr L af cf) (gF 8 9 11 w2.heap.size wr L q 0 z G) (by kernel_rfl) (by kernel_rfl) (by kernel_rfl) ?_ ?_ ?_
                · exact fun _ => ⟨(Below.refl _ _).drew, .inl HOW.out⟩
                · refine ⟨?_, ?_, ?_, ?_, ?_, ?_, ?_, ?_, ?_, ?_, ?_, ?_, trivial⟩
                  · intro u w21 au hau hu hF hp' K hK
                    have hS : u 11 = undef := (hu.out 11 (by decide) (.inr (by kernel_rfl))).trans (by kernel_rfl)
                    have hB := (hF hS).1
                    have hZ : w2.heap.size ≤ w21.heap.size := Nat.le_trans HZ9.out hB.size
                    have t11 : au.tmps[11]?.getD undef = .pointer (some ⟨q, 0, none⟩) := by rw [hau.out]; kernel_rfl
                    refine step_plain rfl ?_
                    go_simp
                    exact hK.out (.pointer (some ⟨q, 0, none⟩)) _ (gR_up hZ hF (Below.refl _ _) 0 (by omega) (by omega) _) ⟨by rw [upU_same]; exact (G0.out _).2 rfl, fun e => by omega, fun e => by omega, fun e => by omega⟩ (fun j hj hf h => gF_up (Below.refl _ _) 0 (by omega) (by omega) _ j hj (fun e => by subst e; exact absurd (Eq.trans (Eq.symm (by kernel_rfl)) hf) Bool.false_ne_true) h)
                  · intro u w21 au hau hu hF hp' K hK
                    have hS : u 11 = undef := (hu.out 11 (by decide) (.inr (by kernel_rfl))).trans (by kernel_rfl)
                    have hB := (hF hS).1
                    have hZ : w2.heap.size ≤ w21.heap.size := Nat.le_trans HZ9.out hB.size
                    have h0 : u 0 = .pointer (some ⟨q, 0, none⟩) := (G0.out _).1 (PreF.get hp' 0 (by kernel_rfl)).1
                    have t47 : au.tmps[47]?.getD undef = u 0 := by rw [hau.out]; kernel_rfl
                    rw [h0] at t47
                    obtain ⟨x3, -⟩ := (HB5.out.below hB HQZ.out.1) 0 _ rfl
                    refine step_plain rfl ?_
                    go_simp
                    exact hK.out (.slice af L.length cf) _ (gR_up hZ hF (Below.refl _ _) 1 (by omega) (by omega) _) ⟨by rw [upU_same]; exact (G1.out _).2 rfl, fun e => by omega, fun e => by omega, fun e => by omega⟩ (fun j hj hf h => gF_up (Below.refl _ _) 1 (by omega) (by omega) _ j hj (fun e => by subst e; exact absurd (Eq.trans (Eq.symm (by kernel_rfl)) hf) Bool.false_ne_true) h)
                  · intro u w21 au hau hu hF hp' K hK
                    have hS : u 11 = undef := (hu.out 11 (by decide) (.inr (by kernel_rfl))).trans (by kernel_rfl)
                    have hB := (hF hS).1
                    have hZ : w2.heap.size ≤ w21.heap.size := Nat.le_trans HZ9.out hB.size
                    have t0 : au.tmps[0]?.getD undef = .slice (some ⟨bm, om, none⟩) 9 cm := by rw [hau.out]; kernel_rfl
                    refine step_plain rfl ?_
                    go_simp
                    exact hK.out (.slice (some ⟨bm, om, none⟩) 9 cm) _ (gR_up hZ hF (Below.refl _ _) 2 (by omega) (by omega) _) ⟨by rw [upU_same]; exact (G2.out _).2 rfl, fun e => by omega, fun e => by omega, fun e => by omega⟩ (fun j hj hf h => gF_up (Below.refl _ _) 2 (by omega) (by omega) _ j hj (fun e => by subst e; exact absurd (Eq.trans (Eq.symm (by kernel_rfl)) hf) Bool.false_ne_true) h)
                  · intro u w21 au hau hu hF hp' K hK
                    have hS : u 11 = undef := (hu.out 11 (by decide) (.inr (by kernel_rfl))).trans (by kernel_rfl)
                    have hB := (hF hS).1
                    have hZ : w2.heap.size ≤ w21.heap.size := Nat.le_trans HZ9.out hB.size
                    have t12 : au.tmps[12]?.getD undef = .int .i64 (k : Int) := by rw [hau.out]; kernel_rfl
                    refine step_plain rfl ?_
                    go_simp
                    exact hK.out (.int .i64 (k : Int)) _ (gR_up hZ hF (Below.refl _ _) 3 (by omega) (by omega) _) ⟨by rw [upU_same]; exact (G3.out _).2 rfl, fun e => by omega, fun e => by omega, fun e => by omega⟩ (fun j hj hf h => gF_up (Below.refl _ _) 3 (by omega) (by omega) _ j hj (fun e => by subst e; exact absurd (Eq.trans (Eq.symm (by kernel_rfl)) hf) Bool.false_ne_true) h)
                  · intro u w21 au hau hu hF hp' K hK
                    have hS : u 11 = undef := (hu.out 11 (by decide) (.inr (by kernel_rfl))).trans (by kernel_rfl)
                    have hB := (hF hS).1
                    have hZ : w2.heap.size ≤ w21.heap.size := Nat.le_trans HZ9.out hB.size
                    have h2 : u 2 = .slice (some ⟨bm, om, none⟩) 9 cm := (G2.out _).1 (PreF.get hp' 2 (by kernel_rfl)).1
                    have t49 : au.tmps[49]?.getD undef = u 2 := by rw [hau.out]; kernel_rfl
                    rw [h2] at t49
                    have h3 : u 3 = .int .i64 (k : Int) := (G3.out _).1 (PreF.get hp' 3 (by kernel_rfl)).1
                    have t50 : au.tmps[50]?.getD undef = u 3 := by rw [hau.out]; kernel_rfl
                    rw [h3] at t50
                    refine step_plain rfl ?_
                    go_simp
                    exact hK.out (.pointer (some ⟨bm, om + k, none⟩)) _ (gR_up hZ hF (Below.refl _ _) 4 (by omega) (by omega) _) ⟨by rw [upU_same]; exact (G4.out _).2 rfl, fun e => by omega, fun e => by omega, fun e => by omega⟩ (fun j hj hf h => gF_up (Below.refl _ _) 4 (by omega) (by omega) _ j hj (fun e => by subst e; exact absurd (Eq.trans (Eq.symm (by kernel_rfl)) hf) Bool.false_ne_true) h)
                  · intro u w21 au hau hu hF hp' K hK
                    have hS : u 11 = undef := (hu.out 11 (by decide) (.inr (by kernel_rfl))).trans (by kernel_rfl)
                    have hB := (hF hS).1
                    have hZ : w2.heap.size ≤ w21.heap.size := Nat.le_trans HZ9.out hB.size
                    have h4 : u 4 = .pointer (some ⟨bm, om + k, none⟩) := (G4.out _).1 (PreF.get hp' 4 (by kernel_rfl)).1
                    have t51 : au.tmps[51]?.getD undef = u 4 := by rw [hau.out]; kernel_rfl
                    rw [h4] at t51
                    have xc : w21.cell? ⟨bm, om + k, none⟩ = some (.int .i64 (M k)) := (hB.cell (p := ⟨bm, om + k, none⟩) HQZ.out.2).trans HCR.out
                    refine step_plain rfl ?_
                    go_simp
                    exact hK.out (.int .i64 (M k)) _ (gR_up hZ hF (Below.refl _ _) 5 (by omega) (by omega) _) ⟨by rw [upU_same]; exact (G5.out _).2 rfl, fun e => by omega, fun e => by omega, fun e => by omega⟩ (fun j hj hf h => gF_up (Below.refl _ _) 5 (by omega) (by omega) _ j hj (fun e => by subst e; exact absurd (Eq.trans (Eq.symm (by kernel_rfl)) hf) Bool.false_ne_true) h)
                  · intro u w21 au hau hu hF hp' K hK
                    have hS : u 11 = undef := (hu.out 11 (by decide) (.inr (by kernel_rfl))).trans (by kernel_rfl)
                    have hB := (hF hS).1
                    have hZ : w2.heap.size ≤ w21.heap.size := Nat.le_trans HZ9.out hB.size
                    have t8 : au.tmps[8]?.getD undef = .int .i64 gs := by rw [hau.out]; kernel_rfl
                    refine step_plain rfl ?_
                    go_simp
                    exact hK.out (.int .i64 gs) _ (gR_up hZ hF (Below.refl _ _) 6 (by omega) (by omega) _) ⟨by rw [upU_same]; exact (G6.out _).2 rfl, fun e => by omega, fun e => by omega, fun e => by omega⟩ (fun j hj hf h => gF_up (Below.refl _ _) 6 (by omega) (by omega) _ j hj (fun e => by subst e; exact absurd (Eq.trans (Eq.symm (by kernel_rfl)) hf) Bool.false_ne_true) h)
                  · intro u w21 au hau hu hF hp' K hK
                    have hS : u 11 = undef := (hu.out 11 (by decide) (.inr (by kernel_rfl))).trans (by kernel_rfl)
                    have hB := (hF hS).1
                    have hZ : w2.heap.size ≤ w21.heap.size := Nat.le_trans HZ9.out hB.size
                    have h5 : u 5 = .int .i64 (M k) := (G5.out _).1 (PreF.get hp' 5 (by kernel_rfl)).1
                    have t52 : au.tmps[52]?.getD undef = u 5 := by rw [hau.out]; kernel_rfl
                    rw [h5] at t52
                    have h6 : u 6 = .int .i64 gs := (G6.out _).1 (PreF.get hp' 6 (by kernel_rfl)).1
                    have t53 : au.tmps[53]?.getD undef = u 6 := by rw [hau.out]; kernel_rfl
                    rw [h6] at t53
                    refine step_plain rfl ?_
                    go_simp
                    exact hK.out (.int .i64 z) _ (gR_up hZ hF (Below.refl _ _) 7 (by omega) (by omega) _) ⟨by rw [upU_same]; exact (G7.out _).2 rfl, fun e => by omega, fun e => by omega, fun e => by omega⟩ (fun j hj hf h => gF_up (Below.refl _ _) 7 (by omega) (by omega) _ j hj (fun e => by subst e; exact absurd (Eq.trans (Eq.symm (by kernel_rfl)) hf) Bool.false_ne_true) h)
                  · intro u w21 au hau hu hF hp' K hK
                    have hS : u 11 = undef := (hu.out 11 (by decide) (.inr (by kernel_rfl))).trans (by kernel_rfl)
                    have hB := (hF hS).1
                    have hZ : w2.heap.size ≤ w21.heap.size := Nat.le_trans HZ9.out hB.size
                    have h7 : u 7 = .int .i64 z := (G7.out _).1 (PreF.get hp' 7 (by kernel_rfl)).1
                    have t54 : au.tmps[54]?.getD undef = u 7 := by rw [hau.out]; kernel_rfl
                    rw [h7] at t54
                    refine step_plain rfl ?_
                    go_simp
                    have hb9 := bnew w21 (.cells #[.int .i64 z] 2)
                    exact hK.out (.slice (some ⟨w21.heap.size, 0, none⟩) 1 1) _ (gR_up hZ hF hb9 8 (by omega) (by omega) _) ⟨G8.out _, fun _ => .inr (.inr ⟨w21.heap.size, upU_same _ _ _, hZ, heap_alloc_new w21 _⟩), fun e => by omega, fun e => by omega⟩ (fun j hj hf h => gF_up hb9 8 (by omega) (by omega) _ j hj (fun e => by subst e; exact absurd (Eq.trans (Eq.symm (by kernel_rfl)) hf) Bool.false_ne_true) h)
                  · intro u w21 au hau hu hF hp' K hK
                    have hS : u 11 = undef := (hu.out 11 (by decide) (.inr (by kernel_rfl))).trans (by kernel_rfl)
                    have hB := (hF hS).1
                    have hZ : w2.heap.size ≤ w21.heap.size := Nat.le_trans HZ9.out hB.size
                    have hg9 : ¬ Grw L (u 9) := by rw [hu.out 9 (by decide) (.inl rfl)]; exact HG.out
                    have hown := (hF hS).2.resolve_right hg9
                    have h1 : u 1 = .slice af L.length cf := (G1.out _).1 (PreF.get hp' 1 (by kernel_rfl)).1
                    have t48 : au.tmps[48]?.getD undef = u 1 := by rw [hau.out]; kernel_rfl
                    rw [h1] at t48
                    obtain ⟨b, h8, hBb, hnew⟩ := (((PreF.get hp' 8 (by kernel_rfl)).2.1 rfl).resolve_left (fun h => h hS)).resolve_left hg9
                    have t55 : au.tmps[55]?.getD undef = u 8 := by rw [hau.out]; kernel_rfl
                    rw [h8] at t55
                    have HOWN := hide hown
                    have HNEW := hide hnew
                    have HBW := hide hB
                    clear hown hnew hB
                    refine step_append_lies _ (by rfl) _ _ _ (by rfl) w2.heap.size 2 ti _ 1 8 Try.underlying24 HI1.out hi2 hi3 hi4 rfl (by omega) (.slice af L.length cf) L.length (ints L) (by rw [eval_tmp]; exact t48) HOWN.out ⟨b, 0, none⟩ 1 1 [.int .i64 z] (by rw [eval_tmp]; exact t55) (by rfl) (World.news_of_block (cs := #[.int .i64 z]) (t := 2) (fr := (0, 0)) HNEW.out) (by simp [Value.oneCell']) (by omega) (by have := HLk.out; unfold maxLen; omega) (by have := HLk.out; omega) hZ w21.heap.size rfl ?_
                    intro gg cap1 w22 hown1 hgrow hat hlt1
                    have hbg : Below w2.heap.size w21 w22 := (Below.refl _ _).grown hgrow hZ (fun q' hq' => (HOWN.out.lt q' hq').1)
                    have hgv : Grw L (.slice (some ⟨gg, 0, none⟩) (L.length + 1) cap1) := ⟨_, _, rfl⟩
                    exact hK.out (.slice (some ⟨gg, 0, none⟩) (L.length + 1) cap1) _ (fun _ => ⟨HBW.out.trans hbg, .inr (by rw [upU_same]; exact hgv)⟩) ⟨G9.out _, fun e => by omega, fun _ => .inr ⟨some ⟨gg, 0, none⟩, cap1, upU_same _ _ _, by rw [ints_append]; exact hown1⟩, fun e => by omega⟩ (fun j hj hf h => gF_gr hgv j hj (fun e => by subst e; exact absurd (Eq.trans (Eq.symm (by kernel_rfl)) hf) Bool.false_ne_true) h)
                  · intro u w21 au hau hu hF hp' K hK
                    have hS : u 11 = undef := (hu.out 11 (by decide) (.inr (by kernel_rfl))).trans (by kernel_rfl)
                    have hB := (hF hS).1
                    have hZ : w2.heap.size ≤ w21.heap.size := Nat.le_trans HZ9.out hB.size
                    have t11 : au.tmps[11]?.getD undef = .pointer (some ⟨q, 0, none⟩) := by rw [hau.out]; kernel_rfl
                    refine step_plain rfl ?_
                    go_simp
                    exact hK.out (.pointer (some ⟨q, 0, none⟩)) _ (gR_up hZ hF (Below.refl _ _) 10 (by omega) (by omega) _) ⟨by rw [upU_same]; exact (G10.out _).2 rfl, fun e => by omega, fun e => by omega, fun e => by omega⟩ (fun j hj hf h => gF_up (Below.refl _ _) 10 (by omega) (by omega) _ j hj (fun e => by subst e; exact absurd (Eq.trans (Eq.symm (by kernel_rfl)) hf) Bool.false_ne_true) h)
                  · intro u w21 au hau hu hF hp' K hK
                    have hS : u 11 = undef := (hu.out 11 (by decide) (.inl rfl)).trans (by kernel_rfl)
                    have hB := (hF hS).1
                    have hZ : w2.heap.size ≤ w21.heap.size := Nat.le_trans HZ9.out hB.size
                    obtain ⟨a', c', h9, hown⟩ := ((PreF.get hp' 9 (by kernel_rfl)).2.2.1 rfl).resolve_left (fun h => h hS)
                    have t56 : au.tmps[56]?.getD undef = u 9 := by rw [hau.out]; kernel_rfl
                    rw [h9] at t56
                    have h10 : u 10 = .pointer (some ⟨q, 0, none⟩) := (G10.out _).1 (PreF.get hp' 10 (by kernel_rfl)).1
                    have t57 : au.tmps[57]?.getD undef = u 10 := by rw [hau.out]; kernel_rfl
                    rw [h10] at t57
                    obtain ⟨x3, y3⟩ := (HB5.out.below hB HQZ.out.1) 0 _ rfl
                    have HOWN := hide hown
                    clear hown
                    refine step_plain rfl ?_
                    go_simp
                    exact hK.out (.bool true) _ (fun h0 => by rw [upU_same] at h0; simp [undef] at h0) ⟨G11.out _, fun e => by omega, fun e => by omega, fun _ => ⟨w21, a', c', rfl, hB, HOWN.out, (upU_other _ _ (by omega)).trans h9⟩⟩ (fun j hj _ h => gF_st (by simp [undef]) j hj h)
                · intro u w30 hF hall
                  obtain ⟨w1', a', c', hw30, hbw, hown, h9⟩ := (hall 11 (by decide)).2.2.2 rfl
                  have hq := HQZ.out.1
                  have HE : Hid (Kept q w2 w30 ∧ Bx q [.slice a' (L ++ [z]).length c', .slice none 0 0, .int .i64 D'] w30 ∧ w30.ownsRow w2.heap.size 2 1 (.slice a' (L ++ [z]).length c') (L ++ [z]).length (ints (L ++ [z]))) := by
                    have el : (L ++ [z]).length = L.length + 1 := by simp
                    rw [hw30, el]
                    have hk9 : Kept q w2 w1' := ⟨hbw.os.trans HKR.out.os, hbw.tape.trans HKR.out.tape, hbw.output.trans HKR.out.output, Nat.le_trans HKR.out.size hbw.size, fun b hb hbq => (hbw.block b hb).trans (HKR.out.block b hb hbq)⟩
                    exact ⟨hk9.setCell rfl _, (HB5.out.below hbw hq).set 0 _, own_farG hown hq _⟩
                  have HG9 : Hid (¬ Grw (L ++ [z]) (.slice a' (L.length + 1) c')) := fun ⟨_, _, e⟩ => by simp at e
                  have HL9 : Hid ((L ++ [z]).length = k + 1) := by show _ = _; rw [← HLk.out]; simp
                  have HD9 : Hid (∀ j, j < k + 1 → (L ++ [z]).getD j 0 = dvF M gs j) := fun j hj => by
                    have hl := HLk.out
                    simp only [List.getD]
                    by_cases e : j < k
                    · rw [List.getElem?_append_left (by omega)]; exact HLD.out j e
                    · obtain rfl : j = k := by omega
                      rw [List.getElem?_append_right (by omega), hl, Nat.sub_self]; exact HZZ.out.symm
                  clear hF hall hw30 hbw hown hq HKR HB5 HOW HG HLk HLD HCR
                  simp only [rgPut, Act.put, h9]
                  clear h9
                  go_simp
                  go_wp2_with fail
                  exact ⟨⟨k + 1, L ++ [z], a', c', by simp, HG9.out, HL9.out, by omega, HD9.out, HE.out⟩, by simp [intOf] <;> omega⟩
              · have hk9 : k = 9 := by omega
                have hki : ¬ (k : Int) < 9 := by omega
                obtain ⟨w4, hw4⟩ : ∃ w4, w4 = wr := ⟨_, rfl⟩
                have HL9 : Hid (L.length = 9) := by have := HLk.out; show _ = _; omega
                have HLD9 : Hid (∀ j, j < 9 → L.getD j 0 = dvF M gs j) := fun j hj => HLD.out j (by omega)
                rw [HL9.out] at HB5 HOW
                rw [← hw4] at HB5 HOW HKR
                rw [← hw4]
                clear hw4 HLk HLD HG hk9
                have BQ4 : Hid (Bx q [.slice af 9 cf, .slice none 0 0, .int .i64 D'] w4) := HB5
                have HT4 : Hid (∀ k, k < 3 → w4.cell? ⟨bt, ot + k, none⟩ = some (.int .i64 (T k))) := fun k hk => HKR.out.cell (a := ⟨bt, ot + k, none⟩) (by show bt ≠ q; have := HQT.out; omega) (HT2.out k hk)
                have HQ4 : Hid (q < w4.heap.size) := by have := HZ2.out; have := HKR.out.size; show _ < _; omega
                obtain ⟨L1, hL1⟩ : ∃ L1, L1 = L := ⟨_, rfl⟩
                obtain ⟨a4, ha4⟩ : ∃ a4, a4 = af := ⟨_, rfl⟩
                obtain ⟨c4, hc4⟩ : ∃ c4, c4 = cf := ⟨_, rfl⟩
                rw [← ha4, ← hc4] at BQ4 HOW
                rw [← hL1] at HOW HLD9 HL9
                have HOW1 := HOW
                have HKR4 := HKR
                clear hL1 ha4 hc4 HOW HKR HB5 HT2 HM2 HQM
                go_wp2_with fail
                go_loopw [13, 71] (fun i g wr => ∃ (k : Nat) (L : List Int) (af : Option Addr) (cf : Nat), i = .int .i64 k ∧ ¬ Grw L g ∧ L.length = k ∧ k ≤ 3 ∧ (∀ j, j < k → L.getD j 0 = dvF T gs j) ∧ Kept q w4 wr ∧ Bx q [.slice a4 9 c4, .slice af L.length cf, .int .i64 D'] wr ∧ wr.ownsRow w4.heap.size 2 1 (.slice af L.length cf) L.length (ints L)) (fun i _ _ => 3 - (intOf i).toNat)
                case atStart => exact ⟨0, [], none, 0, rfl, (fun ⟨_, _, h⟩ => by simp [undef] at h), rfl, by omega, fun j hj => by omega, Kept.refl _ _, BQ4.out, ⟨rfl, .inl ⟨rfl, rfl⟩⟩⟩
                case round =>
                  obtain ⟨k, L, af, cf, rfl, hg, hLk, hkn, hLd, hk, hb5, ho⟩ := hrel
                  have HLk := hide hLk
                  have HKR := hide hk
                  have HB5 := hide hb5
                  have HOW := hide ho
                  have HG := hide hg
                  have HLD := hide hLd
                  clear hLk hk hb5 ho hg hLd
                  by_cases hlt : k < 3
                  · have hki : (k : Int) < 3 := by omega
                    go_upto_region 20 with fail
                    have kz := Int.natAbs_tdiv_le_natAbs (T k) gs
                    obtain ⟨z, hz⟩ : ∃ z, z = (T k).tdiv gs := ⟨_, rfl⟩
                    rw [← hz] at kz
                    have ez : IntKind.i64.wrap ((T k).tdiv gs) = z := by have := HBT.out k hlt; rw [IntKind.wrap_i64, ← hz]; omega
                    have HZZ : Hid (dvF T gs k = z) := hz.symm
                    clear kz hz
                    have HZ9 : Hid (w4.heap.size ≤ wr.heap.size) := HKR.out.size
                    have HQZ : Hid (q < w4.heap.size ∧ bt < w4.heap.size) := ⟨HQ4.out, by have := HQ4.out; have := HQT.out; omega⟩
                    have HCR : Hid (wr.cell? ⟨bt, ot + k, none⟩ = some (.int .i64 (T k))) := HKR.out.cell (a := ⟨bt, ot + k, none⟩) (by show bt ≠ q; have := HQT.out; omega) (HT4.out k hlt)
                    obtain ⟨G, hG⟩ : ∃ G : Nat → Value → Prop, G = (fun j v => match j with | 0 => v = .pointer (some ⟨q, 1, none⟩) | 1 => v = .slice af L.length cf | 2 => v = .slice (some ⟨bt, ot, none⟩) 3 ct | 3 => v = .int .i64 (k : Int) | 4 => v = .pointer (some ⟨bt, ot + k, none⟩) | 5 => v = .int .i64 (T k) | 6 => v = .int .i64 gs | 7 => v = .int .i64 z | 10 => v = .pointer (some ⟨q, 1, none⟩) | _ => True) := ⟨_, rfl⟩
                    have G0 : Hid (∀ v, G 0 v ↔ v = .pointer (some ⟨q, 1, none⟩)) := fun v => by rw [hG]; exact Iff.rfl
                    have G1 : Hid (∀ v, G 1 v ↔ v = .slice af L.length cf) := fun v => by rw [hG]; exact Iff.rfl
                    have G2 : Hid (∀ v, G 2 v ↔ v = .slice (some ⟨bt, ot, none⟩) 3 ct) := fun v => by rw [hG]; exact Iff.rfl
                    have G3 : Hid (∀ v, G 3 v ↔ v = .int .i64 (k : Int)) := fun v => by rw [hG]; exact Iff.rfl
                    have G4 : Hid (∀ v, G 4 v ↔ v = .pointer (some ⟨bt, ot + k, none⟩)) := fun v => by rw [hG]; exact Iff.rfl
                    have G5 : Hid (∀ v, G 5 v ↔ v = .int .i64 (T k)) := fun v => by rw [hG]; exact Iff.rfl
                    have G6 : Hid (∀ v, G 6 v ↔ v = .int .i64 gs) := fun v => by rw [hG]; exact Iff.rfl
                    have G7 : Hid (∀ v, G 7 v ↔ v = .int .i64 z) := fun v => by rw [hG]; exact Iff.rfl
                    have G8 : Hid (∀ v, G 8 v) := fun v => by rw [hG]; trivial
                    have G9 : Hid (∀ v, G 9 v) := fun v => by rw [hG]; trivial
                    have G10 : Hid (∀ v, G 10 v ↔ v = .pointer (some ⟨q, 1, none⟩)) := fun v => by rw [hG]; exact Iff.rfl
                    have G11 : Hid (∀ v, G 11 v) := fun v => by rw [hG]; trivial
                    clear hG
                    refine region_opsU (gR 9 11 w4.heap.size wr L af cf) (gF 8 9 11 w4.heap.size wr L q 1 z G) (by kernel_rfl) (by kernel_rfl) (by kernel_rfl) ?_ ?_ ?_
                    · exact fun _ => ⟨(Below.refl _ _).drew, .inl HOW.out⟩
                    · refine ⟨?_, ?_, ?_, ?_, ?_, ?_, ?_, ?_, ?_, ?_, ?_, ?_, trivial⟩
                      · intro u w21 au hau hu hF hp' K hK
                        have hS : u 11 = undef := (hu.out 11 (by decide) (.inr (by kernel_rfl))).trans (by kernel_rfl)
                        have hB := (hF hS).1
                        have hZ : w4.heap.size ≤ w21.heap.size := Nat.le_trans HZ9.out hB.size
                        have t11 : au.tmps[11]?.getD undef = .pointer (some ⟨q, 0, none⟩) := by rw [hau.out]; kernel_rfl
                        refine step_plain rfl ?_
                        go_simp
                        exact hK.out (.pointer (some ⟨q, 1, none⟩)) _ (gR_up hZ hF (Below.refl _ _) 0 (by omega) (by omega) _) ⟨by rw [upU_same]; exact (G0.out _).2 rfl, fun e => by omega, fun e => by omega, fun e => by omega⟩ (fun j hj hf h => gF_up (Below.refl _ _) 0 (by omega) (by omega) _ j hj (fun e => by subst e; exact absurd (Eq.trans (Eq.symm (by kernel_rfl)) hf) Bool.false_ne_true) h)
                      · intro u w21 au hau hu hF hp' K hK
                        have hS : u 11 = undef := (hu.out 11 (by decide) (.inr (by kernel_rfl))).trans (by kernel_rfl)
                        have hB := (hF hS).1
                        have hZ : w4.heap.size ≤ w21.heap.size := Nat.le_trans HZ9.out hB.size
                        have h0 : u 0 = .pointer (some ⟨q, 1, none⟩) := (G0.out _).1 (PreF.get hp' 0 (by kernel_rfl)).1
                        have t62 : au.tmps[62]?.getD undef = u 0 := by rw [hau.out]; kernel_rfl
                        rw [h0] at t62
                        obtain ⟨x3, -⟩ := (HB5.out.below hB HQZ.out.1) 1 _ rfl
                        refine step_plain rfl ?_
                        go_simp
                        exact hK.out (.slice af L.length cf) _ (gR_up hZ hF (Below.refl _ _) 1 (by omega) (by omega) _) ⟨by rw [upU_same]; exact (G1.out _).2 rfl, fun e => by omega, fun e => by omega, fun e => by omega⟩ (fun j hj hf h => gF_up (Below.refl _ _) 1 (by omega) (by omega) _ j hj (fun e => by subst e; exact absurd (Eq.trans (Eq.symm (by kernel_rfl)) hf) Bool.false_ne_true) h)
                      · intro u w21 au hau hu hF hp' K hK
                        have hS : u 11 = undef := (hu.out 11 (by decide) (.inr (by kernel_rfl))).trans (by kernel_rfl)
                        have hB := (hF hS).1
                        have hZ : w4.heap.size ≤ w21.heap.size := Nat.le_trans HZ9.out hB.size
                        have t1 : au.tmps[1]?.getD undef = .slice (some ⟨bt, ot, none⟩) 3 ct := by rw [hau.out]; kernel_rfl
                        refine step_plain rfl ?_
                        go_simp
                        exact hK.out (.slice (some ⟨bt, ot, none⟩) 3 ct) _ (gR_up hZ hF (Below.refl _ _) 2 (by omega) (by omega) _) ⟨by rw [upU_same]; exact (G2.out _).2 rfl, fun e => by omega, fun e => by omega, fun e => by omega⟩ (fun j hj hf h => gF_up (Below.refl _ _) 2 (by omega) (by omega) _ j hj (fun e => by subst e; exact absurd (Eq.trans (Eq.symm (by kernel_rfl)) hf) Bool.false_ne_true) h)
                      · intro u w21 au hau hu hF hp' K hK
                        have hS : u 11 = undef := (hu.out 11 (by decide) (.inr (by kernel_rfl))).trans (by kernel_rfl)
                        have hB := (hF hS).1
                        have hZ : w4.heap.size ≤ w21.heap.size := Nat.le_trans HZ9.out hB.size
                        have t13 : au.tmps[13]?.getD undef = .int .i64 (k : Int) := by rw [hau.out]; kernel_rfl
                        refine step_plain rfl ?_
                        go_simp
                        exact hK.out (.int .i64 (k : Int)) _ (gR_up hZ hF (Below.refl _ _) 3 (by omega) (by omega) _) ⟨by rw [upU_same]; exact (G3.out _).2 rfl, fun e => by omega, fun e => by omega, fun e => by omega⟩ (fun j hj hf h => gF_up (Below.refl _ _) 3 (by omega) (by omega) _ j hj (fun e => by subst e; exact absurd (Eq.trans (Eq.symm (by kernel_rfl)) hf) Bool.false_ne_true) h)
                      · intro u w21 au hau hu hF hp' K hK
                        have hS : u 11 = undef := (hu.out 11 (by decide) (.inr (by kernel_rfl))).trans (by kernel_rfl)
                        have hB := (hF hS).1
                        have hZ : w4.heap.size ≤ w21.heap.size := Nat.le_trans HZ9.out hB.size
                        have h2 : u 2 = .slice (some ⟨bt, ot, none⟩) 3 ct := (G2.out _).1 (PreF.get hp' 2 (by kernel_rfl)).1
                        have t64 : au.tmps[64]?.getD undef = u 2 := by rw [hau.out]; kernel_rfl
                        rw [h2] at t64
                        have h3 : u 3 = .int .i64 (k : Int) := (G3.out _).1 (PreF.get hp' 3 (by kernel_rfl)).1
                        have t65 : au.tmps[65]?.getD undef = u 3 := by rw [hau.out]; kernel_rfl
                        rw [h3] at t65
                        refine step_plain rfl ?_
                        go_simp
                        exact hK.out (.pointer (some ⟨bt, ot + k, none⟩)) _ (gR_up hZ hF (Below.refl _ _) 4 (by omega) (by omega) _) ⟨by rw [upU_same]; exact (G4.out _).2 rfl, fun e => by omega, fun e => by omega, fun e => by omega⟩ (fun j hj hf h => gF_up (Below.refl _ _) 4 (by omega) (by omega) _ j hj (fun e => by subst e; exact absurd (Eq.trans (Eq.symm (by kernel_rfl)) hf) Bool.false_ne_true) h)
                      · intro u w21 au hau hu hF hp' K hK
                        have hS : u 11 = undef := (hu.out 11 (by decide) (.inr (by kernel_rfl))).trans (by kernel_rfl)
                        have hB := (hF hS).1
                        have hZ : w4.heap.size ≤ w21.heap.size := Nat.le_trans HZ9.out hB.size
                        have h4 : u 4 = .pointer (some ⟨bt, ot + k, none⟩) := (G4.out _).1 (PreF.get hp' 4 (by kernel_rfl)).1
                        have t66 : au.tmps[66]?.getD undef = u 4 := by rw [hau.out]; kernel_rfl
                        rw [h4] at t66
                        have xc : w21.cell? ⟨bt, ot + k, none⟩ = some (.int .i64 (T k)) := (hB.cell (p := ⟨bt, ot + k, none⟩) HQZ.out.2).trans HCR.out
                        refine step_plain rfl ?_
                        go_simp
                        exact hK.out (.int .i64 (T k)) _ (gR_up hZ hF (Below.refl _ _) 5 (by omega) (by omega) _) ⟨by rw [upU_same]; exact (G5.out _).2 rfl, fun e => by omega, fun e => by omega, fun e => by omega⟩ (fun j hj hf h => gF_up (Below.refl _ _) 5 (by omega) (by omega) _ j hj (fun e => by subst e; exact absurd (Eq.trans (Eq.symm (by kernel_rfl)) hf) Bool.false_ne_true) h)
                      · intro u w21 au hau hu hF hp' K hK
                        have hS : u 11 = undef := (hu.out 11 (by decide) (.inr (by kernel_rfl))).trans (by kernel_rfl)
                        have hB := (hF hS).1
                        have hZ : w4.heap.size ≤ w21.heap.size := Nat.le_trans HZ9.out hB.size
                        have t8 : au.tmps[8]?.getD undef = .int .i64 gs := by rw [hau.out]; kernel_rfl
                        refine step_plain rfl ?_
                        go_simp
                        exact hK.out (.int .i64 gs) _ (gR_up hZ hF (Below.refl _ _) 6 (by omega) (by omega) _) ⟨by rw [upU_same]; exact (G6.out _).2 rfl, fun e => by omega, fun e => by omega, fun e => by omega⟩ (fun j hj hf h => gF_up (Below.refl _ _) 6 (by omega) (by omega) _ j hj (fun e => by subst e; exact absurd (Eq.trans (Eq.symm (by kernel_rfl)) hf) Bool.false_ne_true) h)
                      · intro u w21 au hau hu hF hp' K hK
                        have hS : u 11 = undef := (hu.out 11 (by decide) (.inr (by kernel_rfl))).trans (by kernel_rfl)
                        have hB := (hF hS).1
                        have hZ : w4.heap.size ≤ w21.heap.size := Nat.le_trans HZ9.out hB.size
                        have h5 : u 5 = .int .i64 (T k) := (G5.out _).1 (PreF.get hp' 5 (by kernel_rfl)).1
                        have t67 : au.tmps[67]?.getD undef = u 5 := by rw [hau.out]; kernel_rfl
                        rw [h5] at t67
                        have h6 : u 6 = .int .i64 gs := (G6.out _).1 (PreF.get hp' 6 (by kernel_rfl)).1
                        have t68 : au.tmps[68]?.getD undef = u 6 := by rw [hau.out]; kernel_rfl
                        rw [h6] at t68
                        refine step_plain rfl ?_
                        go_simp
                        exact hK.out (.int .i64 z) _ (gR_up hZ hF (Below.refl _ _) 7 (by omega) (by omega) _) ⟨by rw [upU_same]; exact (G7.out _).2 rfl, fun e => by omega, fun e => by omega, fun e => by omega⟩ (fun j hj hf h => gF_up (Below.refl _ _) 7 (by omega) (by omega) _ j hj (fun e => by subst e; exact absurd (Eq.trans (Eq.symm (by kernel_rfl)) hf) Bool.false_ne_true) h)
                      · intro u w21 au hau hu hF hp' K hK
                        have hS : u 11 = undef := (hu.out 11 (by decide) (.inr (by kernel_rfl))).trans (by kernel_rfl)
                        have hB := (hF hS).1
                        have hZ : w4.heap.size ≤ w21.heap.size := Nat.le_trans HZ9.out hB.size
                        have h7 : u 7 = .int .i64 z := (G7.out _).1 (PreF.get hp' 7 (by kernel_rfl)).1
                        have t69 : au.tmps[69]?.getD undef = u 7 := by rw [hau.out]; kernel_rfl
                        rw [h7] at t69
                        refine step_plain rfl ?_
                        go_simp
                        have hb9 := bnew w21 (.cells #[.int .i64 z] 2)
                        exact hK.out (.slice (some ⟨w21.heap.size, 0, none⟩) 1 1) _ (gR_up hZ hF hb9 8 (by omega) (by omega) _) ⟨G8.out _, fun _ => .inr (.inr ⟨w21.heap.size, upU_same _ _ _, hZ, heap_alloc_new w21 _⟩), fun e => by omega, fun e => by omega⟩ (fun j hj hf h => gF_up hb9 8 (by omega) (by omega) _ j hj (fun e => by subst e; exact absurd (Eq.trans (Eq.symm (by kernel_rfl)) hf) Bool.false_ne_true) h)
                      · intro u w21 au hau hu hF hp' K hK
                        have hS : u 11 = undef := (hu.out 11 (by decide) (.inr (by kernel_rfl))).trans (by kernel_rfl)
                        have hB := (hF hS).1
                        have hZ : w4.heap.size ≤ w21.heap.size := Nat.le_trans HZ9.out hB.size
                        have hg9 : ¬ Grw L (u 9) := by rw [hu.out 9 (by decide) (.inl rfl)]; exact HG.out
                        have hown := (hF hS).2.resolve_right hg9
                        have h1 : u 1 = .slice af L.length cf := (G1.out _).1 (PreF.get hp' 1 (by kernel_rfl)).1
                        have t63 : au.tmps[63]?.getD undef = u 1 := by rw [hau.out]; kernel_rfl
                        rw [h1] at t63
                        obtain ⟨b, h8, hBb, hnew⟩ := (((PreF.get hp' 8 (by kernel_rfl)).2.1 rfl).resolve_left (fun h => h hS)).resolve_left hg9
                        have t70 : au.tmps[70]?.getD undef = u 8 := by rw [hau.out]; kernel_rfl
                        rw [h8] at t70
                        have HOWN := hide hown
                        have HNEW := hide hnew
                        have HBW := hide hB
                        clear hown hnew hB
                        refine step_append_lies _ (by rfl) _ _ _ (by rfl) w4.heap.size 2 ti _ 1 8 Try.underlying24 HI1.out hi2 hi3 hi4 rfl (by omega) (.slice af L.length cf) L.length (ints L) (by rw [eval_tmp]; exact t63) HOWN.out ⟨b, 0, none⟩ 1 1 [.int .i64 z] (by rw [eval_tmp]; exact t70) (by rfl) (World.news_of_block (cs := #[.int .i64 z]) (t := 2) (fr := (0, 0)) HNEW.out) (by simp [Value.oneCell']) (by omega) (by have := HLk.out; unfold maxLen; omega) (by have := HLk.out; omega) hZ w21.heap.size rfl ?_
                        intro gg cap1 w22 hown1 hgrow hat hlt1
                        have hbg : Below w4.heap.size w21 w22 := (Below.refl _ _).grown hgrow hZ (fun q' hq' => (HOWN.out.lt q' hq').1)
                        have hgv : Grw L (.slice (some ⟨gg, 0, none⟩) (L.length + 1) cap1) := ⟨_, _, rfl⟩
                        exact hK.out (.slice (some ⟨gg, 0, none⟩) (L.length + 1) cap1) _ (fun _ => ⟨HBW.out.trans hbg, .inr (by rw [upU_same]; exact hgv)⟩) ⟨G9.out _, fun e => by omega, fun _ => .inr ⟨some ⟨gg, 0, none⟩, cap1, upU_same _ _ _, by rw [ints_append]; exact hown1⟩, fun e => by omega⟩ (fun j hj hf h => gF_gr hgv j hj (fun e => by subst e; exact absurd (Eq.trans (Eq.symm (by kernel_rfl)) hf) Bool.false_ne_true) h)
                      · intro u w21 au hau hu hF hp' K hK
                        have hS : u 11 = undef := (hu.out 11 (by decide) (.inr (by kernel_rfl))).trans (by kernel_rfl)
                        have hB := (hF hS).1
                        have hZ : w4.heap.size ≤ w21.heap.size := Nat.le_trans HZ9.out hB.size
                        have t11 : au.tmps[11]?.getD undef = .pointer (some ⟨q, 0, none⟩) := by rw [hau.out]; kernel_rfl
                        refine step_plain rfl ?_
                        go_simp
                        exact hK.out (.pointer (some ⟨q, 1, none⟩)) _ (gR_up hZ hF (Below.refl _ _) 10 (by omega) (by omega) _) ⟨by rw [upU_same]; exact (G10.out _).2 rfl, fun e => by omega, fun e => by omega, fun e => by omega⟩ (fun j hj hf h => gF_up (Below.refl _ _) 10 (by omega) (by omega) _ j hj (fun e => by subst e; exact absurd (Eq.trans (Eq.symm (by kernel_rfl)) hf) Bool.false_ne_true) h)
                      · intro u w21 au hau hu hF hp' K hK
                        have hS : u 11 = undef := (hu.out 11 (by decide) (.inl rfl)).trans (by kernel_rfl)
                        have hB := (hF hS).1
                        have hZ : w4.heap.size ≤ w21.heap.size := Nat.le_trans HZ9.out hB.size
                        obtain ⟨a', c', h9, hown⟩ := ((PreF.get hp' 9 (by kernel_rfl)).2.2.1 rfl).resolve_left (fun h => h hS)
                        have t71 : au.tmps[71]?.getD undef = u 9 := by rw [hau.out]; kernel_rfl
                        rw [h9] at t71
                        have h10 : u 10 = .pointer (some ⟨q, 1, none⟩) := (G10.out _).1 (PreF.get hp' 10 (by kernel_rfl)).1
                        have t72 : au.tmps[72]?.getD undef = u 10 := by rw [hau.out]; kernel_rfl
                        rw [h10] at t72
                        obtain ⟨x3, y3⟩ := (HB5.out.below hB HQZ.out.1) 1 _ rfl
                        have HOWN := hide hown
                        clear hown
                        refine step_plain rfl ?_
                        go_simp
                        exact hK.out (.bool true) _ (fun h0 => by rw [upU_same] at h0; simp [undef] at h0) ⟨G11.out _, fun e => by omega, fun e => by omega, fun _ => ⟨w21, a', c', rfl, hB, HOWN.out, (upU_other _ _ (by omega)).trans h9⟩⟩ (fun j hj _ h => gF_st (by simp [undef]) j hj h)
                    · intro u w30 hF hall
                      obtain ⟨w1', a', c', hw30, hbw, hown, h9⟩ := (hall 11 (by decide)).2.2.2 rfl
                      have hq := HQZ.out.1
                      have HE : Hid (Kept q w4 w30 ∧ Bx q [.slice a4 9 c4, .slice a' (L ++ [z]).length c', .int .i64 D'] w30 ∧ w30.ownsRow w4.heap.size 2 1 (.slice a' (L ++ [z]).length c') (L ++ [z]).length (ints (L ++ [z]))) := by
                        have el : (L ++ [z]).length = L.length + 1 := by simp
                        rw [hw30, el]
                        have hk9 : Kept q w4 w1' := ⟨hbw.os.trans HKR.out.os, hbw.tape.trans HKR.out.tape, hbw.output.trans HKR.out.output, Nat.le_trans HKR.out.size hbw.size, fun b hb hbq => (hbw.block b hb).trans (HKR.out.block b hb hbq)⟩
                        exact ⟨hk9.setCell rfl _, (HB5.out.below hbw hq).set 1 _, own_farG hown hq _⟩
                      have HG9 : Hid (¬ Grw (L ++ [z]) (.slice a' (L.length + 1) c')) := fun ⟨_, _, e⟩ => by simp at e
                      have HL9 : Hid ((L ++ [z]).length = k + 1) := by show _ = _; rw [← HLk.out]; simp
                      have HD9 : Hid (∀ j, j < k + 1 → (L ++ [z]).getD j 0 = dvF T gs j) := fun j hj => by
                        have hl := HLk.out
                        simp only [List.getD]
                        by_cases e : j < k
                        · rw [List.getElem?_append_left (by omega)]; exact HLD.out j e
                        · obtain rfl : j = k := by omega
                          rw [List.getElem?_append_right (by omega), hl, Nat.sub_self]; exact HZZ.out.symm
                      clear hF hall hw30 hbw hown hq HKR HB5 HOW HG HLk HLD HCR
                      simp only [rgPut, Act.put, h9]
                      clear h9
                      go_simp
                      go_wp2_with fail
                      exact ⟨⟨k + 1, L ++ [z], a', c', by simp, HG9.out, HL9.out, by omega, HD9.out, HE.out⟩, by simp [intOf] <;> omega⟩
                  · have hk9 : k = 3 := by omega
                    have hki : ¬ (k : Int) < 3 := by omega
                    obtain ⟨w6, hw6⟩ : ∃ w6, w6 = wr := ⟨_, rfl⟩
                    have HL3 : Hid (L.length = 3) := by have := HLk.out; show _ = _; omega
                    have HLD3 : Hid (∀ j, j < 3 → L.getD j 0 = dvF T gs j) := fun j hj => HLD.out j (by omega)
                    rw [HL3.out] at HB5 HOW
                    rw [← hw6] at HB5 HOW HKR
                    rw [← hw6]
                    clear hw6 HLk HLD HG hk9
                    obtain ⟨b0, c0', e0, hB0, hr0, hcp⟩ := own_row7c HOW1.out (by omega)
                    cases e0
                    have HCP := hide hcp
                    clear hcp
                    obtain ⟨b1, c1', e1, hB1, hr1⟩ := own_row7 HOW.out (by omega)
                    cases e1
                    have hq1 := HZ1.out
                    have hq2 := HZ2.out
                    have HR0 := hide ((hr0.congr HLD9.out).kept7 HKR.out (by omega))
                    have HR1 := hide (hr1.congr HLD3.out)
                    have HNE : Hid (b0 ≠ b1) := by have := hr0.lt7 (by omega); show _ ≠ _; omega
                    have HBB : Hid (w.heap.size < b0 ∧ w.heap.size < b1) := ⟨by omega, by have := HKR4.out.size; omega⟩
                    have HX6 := hide ((HX2.out.kept HKR4.out (by omega)).kept HKR.out (by omega))
                    have HB6 := hide ((HB2.out.trans (HKR4.out.below (by omega) (by omega))).trans (HKR.out.below (by omega) (by have := HKR4.out.size; omega)))
                    have cF := specFrameOk_any D' (some ⟨b0, 0, none⟩) 9 c4 (dvF M gs) (by omega) (some ⟨b1, 0, none⟩) 3 cf (dvF T gs) (by omega) w6 HR0.out.px HR1.out.px
                    clear hB0 hB1 hr0 hr1 HOW HOW1 HKR HKR4 HX2 HB2 HLD3 HLD9 HT4 HQT hq1 hq2
                    obtain ⟨x0, -⟩ := HB5.out 0 _ rfl
                    obtain ⟨x1, -⟩ := HB5.out 1 _ rfl
                    obtain ⟨x2, -⟩ := HB5.out 2 _ rfl
                    go_wp2_with fail
                    refine cF.mono ?_
                    rintro e w7 ⟨rfl, hb7⟩
                    have HB7 := hide (HB6.out.trans (hb7.mono HB6.out.size))
                    have BQ7 := hide (HB5.out.below hb7 (World.block_lt_of_cell? _ _ (HB5.out 0 _ rfl).1))
                    have HX7 := hide (HX6.out.below hb7 (World.block_lt_of_cell? _ _ (HX6.out 0 _ rfl).1))
                    have HR07 := hide (HR0.out.below hb7 (HR0.out.lt7 (by omega)))
                    have HR17 := hide (HR1.out.below hb7 (HR1.out.lt7 (by omega)))
                    have hRB0 : w.heap.size ≠ b0 := by have := HBB.out; omega
                    have hRB1 : w.heap.size ≠ b1 := by have := HBB.out; omega
                    clear cF hb7 x0 x1 x2 HB5 HX6 HB6 HR0 HR1
                    obtain ⟨x0, -⟩ := BQ7.out 0 _ rfl
                    obtain ⟨x1, -⟩ := BQ7.out 1 _ rfl
                    obtain ⟨x2, -⟩ := BQ7.out 2 _ rfl
                    obtain ⟨z0, y0⟩ := HX7.out 0 _ rfl
                    obtain ⟨z1, y1⟩ := HX7.out 1 _ rfl
                    obtain ⟨z2, y2⟩ := HX7.out 2 _ rfl
                    cases hfr : frmB D' 9 (dvF M gs) 3 (dvF T gs)
                    · have HF : Hid (FrC D' (dvF M gs) (dvF T gs) w (.returned (.tuple #[vFrame 0 none 0 0 none 0 0, .bool false])) (((w7.setCell ⟨w.heap.size, 0, none⟩ (.slice none 0 0)).setCell ⟨w.heap.size, 1, none⟩ (.slice none 0 0)).setCell ⟨w.heap.size, 2, none⟩ (.int .i64 0))) := .inr ⟨hfr, rfl, below_set37 HB7.out _ _ _ (Nat.le_refl _)⟩
                      clear hfr
                      go_wp2_with fail
                      exact bodyPost_ret (v := .tuple #[vFrame 0 none 0 0 none 0 0, .bool false]) (by simp [results, Try.results19, go_sem, z0, z1, z2]) rfl HF.out
                    · have HF : Hid (FrC D' (dvF M gs) (dvF T gs) w (.returned (.tuple #[vFrame D' (some ⟨b0, 0, none⟩) 9 c4 (some ⟨b1, 0, none⟩) 3 cf, .bool true])) (((w7.setCell ⟨w.heap.size, 0, none⟩ (.slice (some ⟨b0, 0, none⟩) 9 c4)).setCell ⟨w.heap.size, 1, none⟩ (.slice (some ⟨b1, 0, none⟩) 3 cf)).setCell ⟨w.heap.size, 2, none⟩ (.int .i64 D'))) :=
                        .inl ⟨hfr, b0, c4, b1, cf, rfl, Nat.le_of_lt HBB.out.1, Nat.le_of_lt HBB.out.2, HNE.out, ((HR07.out.set (p := ⟨w.heap.size, 0, none⟩) hRB0 _).set (p := ⟨w.heap.size, 1, none⟩) hRB0 _).set (p := ⟨w.heap.size, 2, none⟩) hRB0 _, ((HR17.out.set (p := ⟨w.heap.size, 0, none⟩) hRB1 _).set (p := ⟨w.heap.size, 1, none⟩) hRB1 _).set (p := ⟨w.heap.size, 2, none⟩) hRB1 _, below_set37 HB7.out _ _ _ (Nat.le_refl _), HCP.out⟩
                      clear hfr
                      go_wp2_with fail
                      exact bodyPost_ret (v := .tuple #[vFrame D' (some ⟨b0, 0, none⟩) 9 c4 (some ⟨b1, 0, none⟩) 3 cf, .bool true]) (by simp [results, Try.results19, go_sem, z0, z1, z2]) rfl HF.out

end Go.Proofs.Ytjdbiaoheoialaa

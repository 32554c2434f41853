/- A heap in memory: the first item is let down. -/
import Derived.Test.YtekoioggamhlaaaWhw
namespace Go.Proofs.Ytekoioggamhlaaa
open Go.RowKit

theorem own_form3 {w : World} {B n m : Nat} {e : TypeId} {v : Value} {xs : List Value} (h : w.ownsRow B e m v n xs) : ∃ a cap, v = .slice a n cap := by
  rcases h.2 with ⟨hv, h0⟩ | ⟨b', cap', cur, hv, -⟩
  · exact ⟨none, 0, by rw [hv, h0]⟩
  · exact ⟨_, _, hv⟩
theorem KpS.set6 {b : Nat} {w w' : World} (h : KpS (fun y => y = b) w w') (i j : Nat) (x y z x' y' z' : Value) : KpS (fun y => y = b) w ((((((w'.setCell ⟨b, i * 3, none⟩ x).setCell ⟨b, i * 3 + 1, none⟩ y).setCell ⟨b, i * 3 + 2, none⟩ z).setCell ⟨b, j * 3, none⟩ x').setCell ⟨b, j * 3 + 1, none⟩ y').setCell ⟨b, j * 3 + 2, none⟩ z') :=
  (h.set3 (b := b) rfl (i * 3) (i * 3 + 1) (i * 3 + 2) x y z).set3 (b := b) rfl (j * 3) (j * 3 + 1) (j * 3 + 2) x' y' z'
theorem Bx.other6 {b g : Nat} {vs : List Value} {w : World} (h : Bx b vs w) (hg : b ≠ g) (i j : Nat) (x y z x' y' z' : Value) : Bx b vs ((((((w.setCell ⟨g, i * 3, none⟩ x).setCell ⟨g, i * 3 + 1, none⟩ y).setCell ⟨g, i * 3 + 2, none⟩ z).setCell ⟨g, j * 3, none⟩ x').setCell ⟨g, j * 3 + 1, none⟩ y').setCell ⟨g, j * 3 + 2, none⟩ z') :=
  (((((h.other (p := ⟨g, i * 3, none⟩) hg x).other (p := ⟨g, i * 3 + 1, none⟩) hg y).other (p := ⟨g, i * 3 + 2, none⟩) hg z).other (p := ⟨g, j * 3, none⟩) hg x').other (p := ⟨g, j * 3 + 1, none⟩) hg y').other (p := ⟨g, j * 3 + 2, none⟩) hg z'
/-- the foremost of A and of its children ahead of b -/
def fsI (M : List I3) (A F b : Nat) : Prop := (F = A ∨ (0 < F ∧ (F - 1) / 2 = A ∧ bfI (gI M F) (gI M A))) ∧ leI (gI M F) (gI M A) ∧ ∀ i, i < b → i < M.length → 0 < i → (i - 1) / 2 = A → leI (gI M F) (gI M i)
theorem fsI_start (M : List I3) (A : Nat) : fsI M A A (2 * A + 1) := ⟨.inl rfl, leI_refl _, fun i h1 _ h2 h3 => by omega⟩
theorem fsI_yes {M : List I3} {A F b : Nat} (h : fsI M A F b) (hb : (b - 1) / 2 = A) (h0 : 0 < b) (h1 : bfI (gI M b) (gI M F)) : fsI M A b (b + 1) := by
  obtain ⟨g1, g2, g3⟩ := h
  refine ⟨.inr ⟨h0, hb, ?_⟩, leI_trans (bfI_le h1) g2, fun i h2 h3 h4 h5 => ?_⟩
  · simp only [bfI, leI] at *; omega
  · by_cases e : i = b
    · rw [e]; exact leI_refl _
    · exact leI_trans (bfI_le h1) (g3 i (by omega) h3 h4 h5)
theorem fsI_no {M : List I3} {A F b : Nat} (h : fsI M A F b) (h1 : ¬ bfI (gI M b) (gI M F)) : fsI M A F (b + 1) := by
  obtain ⟨g1, g2, g3⟩ := h
  refine ⟨g1, g2, fun i h2 h3 h4 h5 => ?_⟩
  by_cases e : i = b
  · rw [e]; exact leI_not.1 h1
  · exact g3 i (by omega) h3 h4 h5
theorem fsI_end {M : List I3} {A F b : Nat} (h : fsI M A F b) (hb : ¬ (b ≤ 2 * A + 2 ∧ b < M.length)) : ∀ i, i < M.length → 0 < i → (i - 1) / 2 = A → leI (gI M F) (gI M i) := fun i h1 h2 h3 => h.2.2 i (by omega) h1 h2 h3

set_option maxRecDepth 100000 in
set_option maxHeartbeats 4000000 in
theorem sink_any (bf off : Nat) (vs : List Value) (gg m cap : Nat) (hv : vs[off]? = some (.slice (some ⟨gg, 0, none⟩) m cap)) (L : List I3) (B : Nat) (w : World) (hb : Bx bf vs w) (hm : L.length = m) (ho : w.ownsRow B 59 3 (.slice (some ⟨gg, 0, none⟩) m cap) m (ints (hl L)))
    (hgb : gg ≠ bf) (hL : m ≤ 5000) (hD : dnI L 0) :
    Calls Try.prog 44 #[.pointer (some ⟨bf, off, none⟩)] w fun e w' => e = .returned (.tuple #[]) ∧ ∃ L', L'.Perm L ∧ hpI L' ∧ Bx bf vs w' ∧ w'.ownsRow B 59 3 (.slice (some ⟨gg, 0, none⟩) m cap) m (ints (hl L')) ∧ KpS (fun y => y = gg) w w' := by
  have HX0 := hide hb
  have HO0 := hide ho
  have HD0 := hide hD
  have HV := hide hv
  have HGB := hide hgb
  have HM := hide hm
  clear hb ho hD hv hgb hm
  go_enter Try.func44, Try.ntmps44
  go_wp2_with fail
  go_loopw [2, 3, 4] (fun a _ _ wr => ∃ (A : Nat) (M : List I3), a = .int .i64 A ∧ (A = 0 ∨ A < m) ∧ M.length = m ∧ M.Perm L ∧ dnI M A ∧ Bx bf vs wr ∧ wr.ownsRow B 59 3 (.slice (some ⟨gg, 0, none⟩) m cap) m (ints (hl M)) ∧ KpS (fun y => y = gg) w wr) (fun a _ _ _ => m - (intOf a).toNat)
  case atStart => exact ⟨0, L, by first | rfl | simp, .inl rfl, HM.out, List.Perm.refl _, HD0.out, HX0.out, HO0.out, KpS.refl _ _⟩
  case round =>
    obtain ⟨A, M, rfl, hA, hML, hP, hD, hX, hO, hK⟩ := hrel
    clear HX0 HO0 HD0
    have HX := hide hX
    have HO := hide hO
    have HK := hide hK
    have HP := hide hP
    have HD := hide hD
    have HML := hide hML
    have HA := hide hA
    have hA4 : A ≤ 5000 := by omega
    clear hX hO hK hP hD hML hA
    have HFS := hide (fsI_start M A)
    have hw2 : IntKind.i64.wrap (2 * (A : Int)) = ((2 * A : Nat) : Int) := by rw [IntKind.wrap_i64]; omega
    go_wp2_with fail
    go_loopw [3, 4] (fun f b wr => ∃ F b' : Nat, f = .int .i64 F ∧ b = .int .i64 b' ∧ 2 * A + 1 ≤ b' ∧ b' ≤ 2 * A + 3 ∧ (F = A ∨ F < m) ∧ fsI M A F b' ∧ Bx bf vs wr ∧ wr.ownsRow B 59 3 (.slice (some ⟨gg, 0, none⟩) m cap) m (ints (hl M)) ∧ KpS (fun y => y = gg) w wr) (fun _ b _ => 2 * A + 3 - (intOf b).toNat)
    case atStart => exact ⟨A, 2 * A + 1, rfl, by first | rfl | simp, Nat.le_refl _, by omega, .inl rfl, HFS.out, HX.out, HO.out, HK.out⟩
    case round =>
      obtain ⟨F, b, rfl, rfl, hb1, hb3, hF, hfs, hX, hO, hK⟩ := hrel
      clear HX HO HK HFS
      have z0 := (hX off _ HV.out).1
      have HX := hide hX
      have HO := hide hO
      have HK := hide hK
      have HFS := hide hfs
      have HF := hide hF
      clear hX hO hK hfs hF
      have hb4 : b ≤ 10003 := by omega
      by_cases hlt : b ≤ 2 * A + 2 ∧ b < m
      · obtain ⟨hl1, hl2⟩ := hlt
        have hF0 : F < m := by
          rcases HF.out with h | h
          · rw [h]; omega
          · exact h
        have c1 : (b : Int) ≤ 2 * (A : Int) + 2 := by omega
        have c2 : (b : Int) < (m : Int) := by omega
        have c3 : (F : Int) < (m : Int) := by omega
        have HO' : Hid (wr.ownsRow B 59 3 (.slice (some ⟨gg, 0, none⟩) m cap) M.length (ints (hl M))) := by
          show World.ownsRow _ _ _ _ _ _ _
          rw [HML.out]; exact HO.out
        obtain ⟨bx, cx, e, -, -, -, hcell⟩ := own_itm HO'.out (by rw [HML.out]; omega)
        have e9 : gg = bx := Option.some.inj (congrArg Value.ownBlock e)
        subst e9
        clear e
        obtain ⟨⟨a0, a1, a2⟩, -⟩ := hcell b (by rw [HML.out]; omega)
        obtain ⟨⟨b0, b1, b2⟩, -⟩ := hcell F (by rw [HML.out]; omega)
        have cB := fun w' => before_any (gI M b) (gI M F) w'
        have HY := hide (fun h => fsI_yes HFS.out (show (b - 1) / 2 = A by omega) (show 0 < b by omega) h)
        have HN := hide (fun h => fsI_no HFS.out h)
        have HB9 := hide (And.intro hb1 (And.intro hl1 hl2))
        clear hcell HFS
        generalize hga : gI M b = X at *
        generalize hgp : gI M F = Y at *
        obtain ⟨X1, X2, X3⟩ := X
        obtain ⟨Y1, Y2, Y3⟩ := Y
        clear hga hgp
        have SK : Nonempty (Up wr) := up_ne wr
        have p0 := fun p : Up wr => p.cell z0
        have r0 := fun p : Up wr => p.cell a0
        have r1 := fun p : Up wr => p.cell a1
        have r2 := fun p : Up wr => p.cell a2
        have r3 := fun p : Up wr => p.cell b0
        have r4 := fun p : Up wr => p.cell b1
        have r5 := fun p : Up wr => p.cell b2
        have mW := metW X1 X2 X3
        have nW := nilW X1 X2 X3
        go_upto_region 5 with fail
        by_cases hbq : bfI (X1, X2, X3) (Y1, Y2, Y3)
        · rw [decide_eq_true hbq] at cB
          have HE := hide (HY.out hbq)
          clear HY HN hbq
          refine region_up (by kernel_rfl) (by kernel_rfl) ?_
          repeat (go_big_quiet_step (first | exact rfl | (go_at_call 68; exact calls_up (cB _))))
          refine wpQuiet_nil ?_
          intro _ hw2
          obtain ⟨pq, hw3⟩ := hw2
          subst hw3
          have HX2 := hide (HX.out.below pq.below (World.block_lt_of_cell? wr ⟨bf, off, none⟩ z0))
          have HO2 := hide (ownsRow_below' HO.out pq.below)
          have HK2 := hide (HK.out.next pq.below)
          clear p0 r0 r1 r2 r3 r4 r5 SK cB mW nW z0 a0 a1 a2 b0 b1 b2
          generalize pq.w = w2 at *
          go_wp2_with fail
          exact ⟨⟨b, b + 1, rfl, rfl, by omega, by omega, .inr HB9.out.2.2, HE.out, HX2.out, HO2.out, HK2.out⟩, by simp [intOf]; omega⟩
        · rw [decide_eq_false hbq] at cB
          have HE := hide (HN.out hbq)
          clear HY HN hbq
          refine region_up (by kernel_rfl) (by kernel_rfl) ?_
          repeat (go_big_quiet_step (first | exact rfl | (go_at_call 68; exact calls_up (cB _))))
          refine wpQuiet_nil ?_
          intro _ hw2
          obtain ⟨pq, hw3⟩ := hw2
          subst hw3
          have HX2 := hide (HX.out.below pq.below (World.block_lt_of_cell? wr ⟨bf, off, none⟩ z0))
          have HO2 := hide (ownsRow_below' HO.out pq.below)
          have HK2 := hide (HK.out.next pq.below)
          clear p0 r0 r1 r2 r3 r4 r5 SK cB mW nW z0 a0 a1 a2 b0 b1 b2
          generalize pq.w = w2 at *
          go_wp2_with fail
          exact ⟨⟨F, b + 1, rfl, rfl, by omega, by omega, HF.out, HE.out, HX2.out, HO2.out, HK2.out⟩, by simp [intOf]; omega⟩
      · have HE := hide (fsI_end HFS.out (by rw [HML.out]; exact hlt))
        have HFA := hide HFS.out.1
        -- the loop ends
        have hc : (¬ (b : Int) ≤ 2 * (A : Int) + 2) ∨ ((b : Int) ≤ 2 * (A : Int) + 2 ∧ ¬ (b : Int) < (m : Int)) := by omega
        have HLt := hide hlt
        clear hlt HFS
        by_cases hFA : F = A
        · subst hFA
          have HEn := hide (dnI_end HD.out HE.out)
          rcases hc with hc | ⟨hc, hc2⟩
          all_goals
            go_wp2_with fail
            exact bodyPost_ret (v := .tuple #[]) (by simp [results, Try.results44, go_sem]) rfl ⟨rfl, M, HP.out, HEn.out, HX.out, HO.out, HK.out⟩
        · have hFm : F < m := by
            rcases HF.out with h | h
            · exact absurd h hFA
            · exact h
          have hFA' : ((F : Int) == (A : Int)) = false := by simp; omega
          obtain ⟨hF0, hFp, hFb⟩ : 0 < F ∧ (F - 1) / 2 = A ∧ bfI (gI M F) (gI M A) := by
            rcases HFA.out with h | h
            · exact absurd h hFA
            · exact h
          have hAm : A < m := by omega
          have HSt := hide (dnI_step HD.out (c := F) (by rw [HML.out]; exact hFm) hF0 hFp hFb HE.out)
          have HSp := hide (swI_perm (L := M) (i := A) (j := F) (by rw [HML.out]; omega) (by rw [HML.out]; omega))
          unfold swI at HSt HSp
          have HO' : Hid (wr.ownsRow B 59 3 (.slice (some ⟨gg, 0, none⟩) m cap) M.length (ints (hl M))) := by
            show World.ownsRow _ _ _ _ _ _ _
            rw [HML.out]; exact HO.out
          obtain ⟨bx, cx, e, -, -, -, hcell⟩ := own_itm HO'.out (by rw [HML.out]; omega)
          have e9 : gg = bx := Option.some.inj (congrArg Value.ownBlock e)
          subst e9
          clear e
          obtain ⟨⟨a0, a1, a2⟩, fa0, fa1, fa2⟩ := hcell A (by rw [HML.out]; omega)
          obtain ⟨⟨b0, b1, b2⟩, fb0, fb1, fb2⟩ := hcell F (by rw [HML.out]; omega)
          have HSw := hide (own_set3 (own_set3 HO.out (k := A) (by rw [HML.out]; omega) (gI M F)) (k := F) (by simp; rw [HML.out]; omega) (gI M A))
          have c3 : (F : Int) < (m : Int) := by omega
          have c4 : (A : Int) < (m : Int) := by omega
          clear hcell hFb HE HFA HLt HO'
          generalize hga : gI M A = X at *
          generalize hgp : gI M F = Y at *
          obtain ⟨X1, X2, X3⟩ := X
          obtain ⟨Y1, Y2, Y3⟩ := Y
          clear hga hgp
          obtain ⟨w2, hw9⟩ : ∃ w2, w2 = wr := ⟨_, rfl⟩
          subst hw9
          have HX9 : Hid (Bx bf vs (((((((w2.setCell ⟨gg, A * 3, none⟩ (.int .i64 Y1)).setCell ⟨gg, A * 3 + 1, none⟩ (.int .i64 Y2)).setCell ⟨gg, A * 3 + 2, none⟩ (.int .i64 Y3)).setCell ⟨gg, F * 3, none⟩ (.int .i64 X1)).setCell ⟨gg, F * 3 + 1, none⟩ (.int .i64 X2)).setCell ⟨gg, F * 3 + 2, none⟩ (.int .i64 X3)).drew)) := (HX.out.other6 HGB.out.symm A F _ _ _ _ _ _).drewB
          have HS9 : Hid ((((((((w2.setCell ⟨gg, A * 3, none⟩ (.int .i64 Y1)).setCell ⟨gg, A * 3 + 1, none⟩ (.int .i64 Y2)).setCell ⟨gg, A * 3 + 2, none⟩ (.int .i64 Y3)).setCell ⟨gg, F * 3, none⟩ (.int .i64 X1)).setCell ⟨gg, F * 3 + 1, none⟩ (.int .i64 X2)).setCell ⟨gg, F * 3 + 2, none⟩ (.int .i64 X3)).drew).ownsRow B 59 3 (.slice (some ⟨gg, 0, none⟩) m cap) m (ints (hl ((M.set A (Y1, Y2, Y3)).set F (X1, X2, X3))))) := ownsRow_below' HSw.out (Below.refl _ _).drew
          have HK9 : Hid (KpS (fun y => y = gg) w (((((((w2.setCell ⟨gg, A * 3, none⟩ (.int .i64 Y1)).setCell ⟨gg, A * 3 + 1, none⟩ (.int .i64 Y2)).setCell ⟨gg, A * 3 + 2, none⟩ (.int .i64 Y3)).setCell ⟨gg, F * 3, none⟩ (.int .i64 X1)).setCell ⟨gg, F * 3 + 1, none⟩ (.int .i64 X2)).setCell ⟨gg, F * 3 + 2, none⟩ (.int .i64 X3)).drew)) := (HK.out.set6 A F _ _ _ _ _ _).drew
          have HLn : Hid (((M.set A (Y1, Y2, Y3)).set F (X1, X2, X3)).length = m) := by show _ = _; simp; exact HML.out
          have HPm := hide (HSp.out.trans HP.out)
          clear HSw HSp HX HO HK
          rcases hc with hc | ⟨hc, hc2⟩
          all_goals
            go_upto_region 8 with fail
            go_region
            all_goals
              clear z0 a0 a1 a2 b0 b1 b2 fa0 fa1 fa2 fb0 fb1 fb2
              go_wp2_with fail
              go_roundw
              case rel => exact ⟨F, (M.set A (Y1, Y2, Y3)).set F (X1, X2, X3), rfl, .inr hFm, HLn.out, HPm.out, HSt.out, HX9.out, HS9.out, HK9.out⟩
              case measure => simp [intOf]; omega

end Go.Proofs.Ytekoioggamhlaaa

/- The threshold that is told is the best one: the law, walked. -/
import Derived.Test.YtionmmmmmjjciaaDtq
import Derived.Test.YtionmmmmmjjciaaThb
import Derived.Test.YtionmmmmmjjciaaTha
import Derived.Test.YtionmmmmmjjciaaQup
import Derived.Test.YtionmmmmmjjciaaRwb
import Derived.Laws.AppendOwnNone
namespace Go.Proofs.Ytionmmmmmjjciaa
open Go.RowKit Go.Lib

/-- an append of a list that lies -/
theorem growPx (w : World) {ops : Array Oper} {rest : List Oper} {o : Oper} {a : Act} {Q : Exit → Act → World → Prop} (hgd : o.guard = none) (s x : Operand)
    (ho : o.op = .call { callee := .builtin .append, args := #[s, x], argTypes := #[24, 24] }) (B : Nat) (v : Value) (n : Nat) (L : List Int) (hs : a.eval s = v) (w0 : World) (hown : w.ownsRow B 2 1 v n (ints L))
    (hb : Below B w0 w) (hB : B ≤ w.heap.size) (b off m c : Nat) (f : Nat → Int) (hx : a.eval x = .slice (some ⟨b, off, none⟩) m c) (hc : ∀ k, k < m → w.cell? ⟨b, off + k, none⟩ = some (.int .i64 (f k))) (hn : n + m ≤ 100000)
    (h : ∀ v' w', w'.ownsRow B 2 1 v' (n + m) (ints (L ++ fl f m)) → Below B w0 w' → wpList Try.prog ops Q rest (a.put o.dst v') w') :
    wpList Try.prog ops Q (o :: rest) a w := by
  obtain ⟨ti, hi1, hi2, hi3, hi4⟩ := info2
  refine wpList_append_own _ hgd s x 24 ho B 2 ti (.int .i64 0) 1 8 Try.underlying24 hi1 hi2 hi3 hi4 rfl (by omega) v n (ints L) hs hown ⟨b, off, none⟩ m c (ints (fl f m)) hx (by rw [ints_length, fl_len]; omega) ?_ (ints_one _) (by unfold maxLen; omega) (by omega) hB ?_
  · intro j u hu
    have hj : j < m := by
      have := (List.getElem?_eq_some_iff.1 hu).1
      rwa [ints_length, fl_len] at this
    have e : (⟨b, off, none⟩ : Addr).add j = ⟨b, off + j, none⟩ := by by_cases h0 : j = 0 <;> simp [Addr.add, h0]
    rw [e, hc j hj, ← hu, ints_at _ _ (by rw [fl_len]; exact hj), fl_at f m j hj]
  · intro v' w' h1 h2 _
    have hr3 : ∀ q, Value.ownBlock v = some q → B ≤ q := fun q hq => (hown.lt q hq).1
    refine h v' w' ?_ (hb.trans ((Below.refl _ _).grown h2 hB hr3))
    rw [ints_append]; exact h1

theorem part_kept {b len k p : Nat} {f : Nat → Int} {w w' : World} (h : Part b len k f w) (hk : Kept p w w') (hb : b ≠ p) : Part b len k f w' := fun j hj => by
  obtain ⟨⟨z, hz, e⟩, fr⟩ := h j hj
  exact ⟨⟨z, hk.cell (a := ⟨b, j, none⟩) hb hz, e⟩, (hk.frozen (a := ⟨b, j, none⟩) hb hz).trans fr⟩

set_option maxRecDepth 100000 in
set_option maxHeartbeats 8000000 in
theorem fnThresholdBest_walk (c0 : Option Addr) (n0 k0 : Nat) (w : World) (hy0 : Bytes c0 n0 w) :
    Calls Try.prog 3 #[.slice c0 n0 k0] w fun e w' => e = .returned (.bool true) ∧ Below w.heap.size w w' := by
  have b0 := big_any c0 n0 k0
  have HY0 := hide hy0
  clear hy0
  go_enter Try.func3, Try.ntmps3
  go_wp2_with fail
  refine (b0 _).mono ?_
  rintro e w0 ⟨rfl, h1⟩
  obtain rfl := h1.symm
  by_cases g0 : 1048576 < n0
  · have d0 : decide (1048576 < n0) = true := by simp [g0]
    clear b0
    go_wp2_with fail
    go_ret
    exact ⟨rfl, Below.refl _ _⟩
  have d0 : decide (1048576 < n0) = false := by simp [g0]
  clear b0
  have cA := drawThreshold_any c0 n0 k0 w HY0.out
  go_wp2_with fail
  refine cA.mono ?_
  rintro e w1 ⟨a, n, c, f, rfl, hn, hpx, hb⟩
  have HB1 := hide hb
  have HP1 := hide hpx
  clear cA hb hpx d0 g0 HY0
  by_cases hn6 : n = 256
  case neg =>
    have tn : ((n : Int) != 256) = true := by simp; omega
    go_wp2_with fail
    go_ret
    exact ⟨rfl, HB1.out⟩
  subst hn6
  obtain ⟨b, off, rfl, hz⟩ : ∃ b off, a = some ⟨b, off, none⟩ ∧ ∀ k, k < 256 → w1.cell? ⟨b, off + k, none⟩ = some (.int .i64 (f k)) := by
    rcases HP1.out with h | h
    · omega
    · exact h
  have HZ := hide hz
  clear hz HP1 hn
  go_wp2_with fail
  go_loopw [4, 5] (fun s i wr => ∃ k : Nat, i = .int .i64 k ∧ k ≤ 256 ∧ s = .int .i64 (sm f k) ∧ (∀ q, q < k → 0 ≤ f q ∧ f q ≤ 4096) ∧ w1 = wr) (fun _ i _ => 256 - (intOf i).toNat)
  case atStart => exact ⟨0, rfl, by omega, rfl, fun q h => by omega, rfl⟩
  case round =>
    obtain ⟨k, rfl, hk, rfl, hbd, rfl⟩ := hrel
    have HBd := hide hbd
    clear hbd
    by_cases hlt : k < 256
    · have hz := HZ.out k hlt
      have hki : (k : Int) < 256 := by omega
      have hs := sm_le HBd.out k (Nat.le_refl _)
      obtain ⟨F, hF⟩ : ∃ F, F = f k := ⟨_, rfl⟩
      rw [← hF] at hz
      have HF := hide hF
      clear hF
      by_cases g1 : F < 0
      · go_wp2_with fail
        go_ret
        exact ⟨rfl, HB1.out⟩
      by_cases g2 : 4096 < F
      · go_wp2_with fail
        go_ret
        exact ⟨rfl, HB1.out⟩
      have HS1 : Hid (sm f (k + 1) = sm f k + F) := by show _ = _; rw [HF.out]; rfl
      have HB2 : Hid (∀ q, q < k + 1 → 0 ≤ f q ∧ f q ≤ 4096) := fun q hq => by
        by_cases e : q = k
        · subst e; rw [← HF.out]; omega
        · exact HBd.out q (by omega)
      have HMe : Hid (256 - (k + 1) < 256 - k) := by show _ < _; omega
      have HJ1 : Hid (k + 1 ≤ 256) := by show _ ≤ _; omega
      obtain ⟨S, hS⟩ : ∃ S, S = sm f k := ⟨_, rfl⟩
      rw [← hS] at hs HS1
      rw [← hS]
      have w1' : IntKind.i64.wrap (S + F) = S + F := by rw [IntKind.wrap_i64]; omega
      have w2' : IntKind.i64.wrap ((k : Int) + 1) = (k : Int) + 1 := by rw [IntKind.wrap_i64]; omega
      clear hS hs HBd hlt hk
      go_wp2_with fail
      go_roundw
      case rel => exact ⟨k + 1, by simp, HJ1.out, by rw [HS1.out], HB2.out, trivial⟩
      case measure => simpa [intOf] using HMe.out
    · obtain rfl : k = 256 := by omega
      obtain ⟨Nn, hNn⟩ : ∃ Nn, Nn = sm f 256 := ⟨_, rfl⟩
      rw [← hNn]
      have HNn := hide hNn
      clear hNn hlt
      by_cases g1 : 4096 < Nn
      · go_wp2_with fail
        go_ret
        exact ⟨rfl, HB1.out⟩
      have HH : Hid (His f) := ⟨HBd.out, by rw [← HNn.out]; omega⟩
      clear HBd
      have hmk := make_px 255 (by omega) w1
      have hmk2 := make_px 255 (by omega) (w1.alloc (.cells (madeCells #[.int .i64 0] 255) 2))
      have e255 : ((255 : Nat) : Int) = 255 := rfl
      rw [e255] at hmk hmk2
      clear e255
      have hbA := bnew w1 (.cells (madeCells #[.int .i64 0] 255) 2)
      have hbC := bnew (w1.alloc (.cells (madeCells #[.int .i64 0] 255) 2)) (.cells (madeCells #[.int .i64 0] 255) 2)
      have HT3 : Hid (Part w1.heap.size 255 0 (tpw f) ((w1.alloc (.cells (madeCells #[.int .i64 0] 255) 2)).alloc (.cells (madeCells #[.int .i64 0] 255) 2))) := ((row_new 255 w1).below hbC (by simp)).part
      have HL3 : Hid (Part (w1.alloc (.cells (madeCells #[.int .i64 0] 255) 2)).heap.size 255 0 (lwt f) ((w1.alloc (.cells (madeCells #[.int .i64 0] 255) 2)).alloc (.cells (madeCells #[.int .i64 0] 255) 2))) := (row_new 255 (w1.alloc (.cells (madeCells #[.int .i64 0] 255) 2))).part
      have HW3 : Hid (Below w1.heap.size w1 ((w1.alloc (.cells (madeCells #[.int .i64 0] 255) 2)).alloc (.cells (madeCells #[.int .i64 0] 255) 2))) := hbA.trans (hbC.mono (by simp))
      have HTL : Hid (w1.heap.size < (w1.alloc (.cells (madeCells #[.int .i64 0] 255) 2)).heap.size ∧ (w1.alloc (.cells (madeCells #[.int .i64 0] 255) 2)).heap.size < ((w1.alloc (.cells (madeCells #[.int .i64 0] 255) 2)).alloc (.cells (madeCells #[.int .i64 0] 255) 2)).heap.size) := ⟨by simp, by simp⟩
      have hsz : (w1.alloc (.cells (madeCells #[.int .i64 0] 255) 2)).heap.size = w1.heap.size + 1 := by simp
      rw [hsz] at HL3 HTL
      clear hbA hbC hsz
      go_upto_region 17 with fail
      generalize hw3 : (w1.alloc (.cells (madeCells #[.int .i64 0] 255) 2)).alloc (.cells (madeCells #[.int .i64 0] 255) 2) = w3 at *
      clear hw3 hmk hmk2
      generalize w1.heap.size + 1 = Lb at *
      have HB3 := hide (bnext HB1.out (Nat.le_refl _) HW3.out)
      have HZ3 : Hid (∀ wz, Below w1.heap.size w1 wz → ∀ k, k < 256 → wz.cell? ⟨b, off + k, none⟩ = some (.int .i64 (f k))) := fun wz hb k hk => (hb.cell (p := ⟨b, off + k, none⟩) (World.block_lt_of_cell? _ _ (HZ.out k hk))).trans (HZ.out k hk)
      have HBT : Hid (∀ wz, Below w1.heap.size w1 wz → Below w.heap.size w wz) := fun wz hb => bnext HB1.out (Nat.le_refl _) hb
      clear HB1 HZ
      generalize hT : w1.heap.size = T at HT3 HTL HZ3 HW3 HBT ⊢
      clear hT
      go_wp2_with fail
      go_loopw [10, 11] (fun s i wr => ∃ k : Nat, i = .int .i64 k ∧ k ≤ 256 ∧ s = .int .i64 (sto f k) ∧ w3 = wr) (fun _ i _ => 256 - (intOf i).toNat)
      case atStart => exact ⟨0, rfl, by omega, rfl, rfl⟩
      case round =>
        obtain ⟨k, rfl, hk, rfl, rfl⟩ := hrel
        by_cases hlt : k < 256
        · have hz := HZ3.out w3 HW3.out k hlt
          have hs := sto_le HH.out.at' (Nat.le_refl _) k (by omega)
          have hto := tone_le (HH.out.at' k hlt) hlt
          have HS1 : Hid (sto f (k + 1) = sto f k + (k : Int) * f k) := rfl
          have HMe : Hid (256 - (k + 1) < 256 - k) := by show _ < _; omega
          have HJ1 : Hid (k + 1 ≤ 256) := by show _ ≤ _; omega
          have hki : (k : Int) < 256 := by omega
          obtain ⟨S, hS⟩ : ∃ S, S = sto f k := ⟨_, rfl⟩
          obtain ⟨F, hF⟩ : ∃ F, F = f k := ⟨_, rfl⟩
          rw [← hS] at hs HS1
          rw [← hF] at hz hto HS1
          rw [← hS]
          obtain ⟨P, hP⟩ : ∃ P, (k : Int) * F = P := ⟨_, rfl⟩
          rw [hP] at hto HS1
          have w0' : IntKind.i64.wrap ((k : Int) * F) = P := by rw [hP, IntKind.wrap_i64]; omega
          have w1' : IntKind.i64.wrap (S + P) = S + P := by rw [IntKind.wrap_i64]; omega
          have w2' : IntKind.i64.wrap ((k : Int) + 1) = (k : Int) + 1 := by rw [IntKind.wrap_i64]; omega
          have w3' : IntKind.i64.wrap (k : Int) = (k : Int) := by rw [IntKind.wrap_i64]; omega
          clear hS hF hP hs hto hk hlt
          go_wp2_with fail
          go_roundw
          case rel => exact ⟨k + 1, by simp, HJ1.out, by rw [HS1.out], trivial⟩
          case measure => simpa [intOf] using HMe.out
        · obtain rfl : k = 256 := by omega
          have hki : ¬ (256 : Int) < 256 := by omega
          clear hlt
          obtain ⟨Sa, hSa⟩ : ∃ Sa, Sa = sto f 256 := ⟨_, rfl⟩
          rw [← hSa]
          have HSa := hide hSa
          clear hSa
          go_wp2_with fail
          go_loopw [8, 9, 12, 13] (fun n0 s0 so i wr => ∃ t : Nat, i = .int .i64 t ∧ t ≤ 255 ∧ n0 = .int .i64 (sm f t) ∧ s0 = .int .i64 (sto f t) ∧ so = .bool (someB f t) ∧ Part T 255 t (tpw f) wr ∧ Part Lb 255 t (lwt f) wr ∧ Below T w1 wr ∧ Lb < wr.heap.size) (fun _ _ _ i _ => 255 - (intOf i).toNat)
          case atStart => exact ⟨0, rfl, by omega, rfl, rfl, rfl, HT3.out, HL3.out, HW3.out, HTL.out.2⟩
          case round =>
            obtain ⟨t, rfl, ht, rfl, rfl, rfl, hpT, hpL, hbw, hlb⟩ := hrel
            have HPT := hide hpT
            have HPL := hide hpL
            have HBw := hide hbw
            have HLb := hide hlb
            clear hpT hpL hbw hlb HT3 HL3 HW3 HB3
            by_cases hlt : t < 255
            · have hz := HZ3.out wr HBw.out t (by omega)
              have hb1 := HH.out.bounds hlt
              have hb2 := HH.out.more hlt
              have hs := sm_le HH.out.at' t (by omega)
              have hs2 := sto_le HH.out.at' (Nat.le_refl _) t (by omega)
              have hto := tone_le (HH.out.at' t (by omega)) (show t < 256 by omega)
              have hfb := HH.out.at' t (by omega)
              have HNL : Hid (nlo f t = sm f (t + 1) ∧ slo f t = sto f (t + 1)) := ⟨rfl, rfl⟩
              have e1 : nlo f t = sm f t + f t := rfl
              have e2 : slo f t = sto f t + (t : Int) * f t := rfl
              have e3 : nhi f t = Nn - nlo f t := by rw [HNn.out]; rfl
              have e4 : shi f t = Sa - slo f t := by rw [HSa.out]; rfl
              have e5 : apt f t = slo f t * nhi f t - shi f t * nlo f t := rfl
              have e6 : tpw f t = apt f t * apt f t := rfl
              have e7 : lwt f t = nlo f t * nhi f t := rfl
              have HSB : Hid (someB f (t + 1) = (someB f t || decide (0 < lwt f t))) := rfl
              have HPS : Hid (∀ z y, z = tpw f t → y = lwt f t → Part T 255 (t + 1) (tpw f) ((wr.setCell ⟨T, t, none⟩ (.int .i64 z)).setCell ⟨Lb, t, none⟩ (.int .i64 y)) ∧ Part Lb 255 (t + 1) (lwt f) ((wr.setCell ⟨T, t, none⟩ (.int .i64 z)).setCell ⟨Lb, t, none⟩ (.int .i64 y)) ∧ Below T w1 ((wr.setCell ⟨T, t, none⟩ (.int .i64 z)).setCell ⟨Lb, t, none⟩ (.int .i64 y)) ∧ Lb < ((wr.setCell ⟨T, t, none⟩ (.int .i64 z)).setCell ⟨Lb, t, none⟩ (.int .i64 y)).heap.size) := fun z y hz hy => by
                have hTL := HTL.out.1
                have k1 : Kept T wr (wr.setCell ⟨T, t, none⟩ (.int .i64 z)) := (Kept.refl T wr).setCell (a := ⟨T, t, none⟩) rfl _
                have k2 : Kept Lb (wr.setCell ⟨T, t, none⟩ (.int .i64 z)) ((wr.setCell ⟨T, t, none⟩ (.int .i64 z)).setCell ⟨Lb, t, none⟩ (.int .i64 y)) := (Kept.refl Lb _).setCell (a := ⟨Lb, t, none⟩) rfl _
                refine ⟨?_, ?_, ((HBw.out.setCell (p := ⟨T, t, none⟩) (Nat.le_refl _) _).setCell (p := ⟨Lb, t, none⟩) (by show T ≤ Lb; omega) _), by simpa using HLb.out⟩
                · exact part_kept (HPT.out.step hlt z hz) k2 (by omega)
                · exact (part_kept HPL.out k1 (by omega)).step hlt y hy
              obtain ⟨⟨yT, hyT, -⟩, frT⟩ := HPT.out t hlt
              obtain ⟨⟨yL, hyL, -⟩, frL⟩ := HPL.out t hlt
              have hTL : ¬ T = Lb := by have := HTL.out.1; omega
              have hTL2 : ¬ Lb = T := by have := HTL.out.1; omega
              have HMe : Hid (255 - (t + 1) < 255 - t) := by show _ < _; omega
              have HJ1 : Hid (t + 1 ≤ 255) := by show _ ≤ _; omega
              have hti : (t : Int) < 255 := by omega
              have hti2 : (t : Int) < 256 := by omega
              have w2' : IntKind.i64.wrap ((t : Int) + 1) = (t : Int) + 1 := by rw [IntKind.wrap_i64]; omega
              have w3' : IntKind.i64.wrap (t : Int) = (t : Int) := by rw [IntKind.wrap_i64]; omega
              generalize nlo f t = NL at *
              generalize slo f t = SL at *
              generalize nhi f t = NH at *
              generalize shi f t = SH at *
              generalize apt f t = AP at *
              generalize tpw f t = TP at *
              generalize lwt f t = LW at *
              generalize sm f t = S1 at *
              generalize sto f t = S2 at *
              generalize someB f t = SB at *
              generalize f t = F at *
              obtain ⟨P, hP⟩ : ∃ P, (t : Int) * F = P := ⟨_, rfl⟩
              rw [hP] at e2 hto
              obtain ⟨PA, hPA⟩ : ∃ PA, SL * NH = PA := ⟨_, rfl⟩
              obtain ⟨PB, hPB⟩ : ∃ PB, SH * NL = PB := ⟨_, rfl⟩
              rw [hPA] at e5 hb2
              rw [hPB] at e5 hb2
              have a0 : IntKind.i64.wrap (S1 + F) = NL := by rw [IntKind.wrap_i64]; omega
              have a1 : IntKind.i64.wrap ((t : Int) * F) = P := by rw [hP, IntKind.wrap_i64]; omega
              have a2 : IntKind.i64.wrap (S2 + P) = SL := by rw [IntKind.wrap_i64]; omega
              have a3 : IntKind.i64.wrap (Nn - NL) = NH := by rw [IntKind.wrap_i64]; omega
              have a4 : IntKind.i64.wrap (SL * NH) = PA := by rw [hPA, IntKind.wrap_i64]; omega
              have a5 : IntKind.i64.wrap (Sa - SL) = SH := by rw [IntKind.wrap_i64]; omega
              have a6 : IntKind.i64.wrap (SH * NL) = PB := by rw [hPB, IntKind.wrap_i64]; omega
              have a7 : IntKind.i64.wrap (PA - PB) = AP := by rw [IntKind.wrap_i64]; omega
              have a8 : IntKind.i64.wrap (AP * AP) = TP := by rw [← e6, IntKind.wrap_i64]; omega
              have a9 : IntKind.i64.wrap (NL * NH) = LW := by rw [← e7, IntKind.wrap_i64]; omega
              have HPS2 := hide (HPS.out TP LW rfl rfl)
              have yL2 : (wr.setCell ⟨T, t, none⟩ (.int .i64 TP)).cell? ⟨Lb, t, none⟩ = some (.int .i64 yL) := by rw [World.cell?_setCell_other _ _ _ _ (by simp)]; exact hyL
              have frL2 : (wr.setCell ⟨T, t, none⟩ (.int .i64 TP)).frozen? ⟨Lb, t, none⟩ = false := by simpa using frL
              clear HPS hb1 hb2 hs hs2 hto hfb e1 e2 e3 e4 e5 e6 e7 hP hPA hPB HPT HPL HBw HLb ht hlt g1
              go_upto_region 32 with fail
              generalize hu : wr.setCell ⟨T, t, none⟩ (.int .i64 TP) = u at *
              clear hu hyT frT hyL frL hTL hTL2 hz a0 a1 a2 a4 a5 a6 a7 a8
              cases SB
              · go_wp2_with fail
                go_roundw
                case rel => exact ⟨t + 1, by simp, HJ1.out, by rw [HNL.out.1], by rw [HNL.out.2], by rw [HSB.out]; rfl, HPS2.out⟩
                case measure => simpa [intOf] using HMe.out
              · go_wp2_with fail
                go_roundw
                case rel => exact ⟨t + 1, by simp, HJ1.out, by rw [HNL.out.1], by rw [HNL.out.2], by rw [HSB.out]; rfl, HPS2.out⟩
                case measure => simpa [intOf] using HMe.out
            · obtain rfl : t = 255 := by omega
              have hti : ¬ (255 : Int) < 255 := by omega
              have HZr : Hid (∀ k, k < 256 → (wr.alloc (.cells #[] 2)).cell? ⟨b, off + k, none⟩ = some (.int .i64 (f k))) := fun k hk => by
                have h2 := HZ3.out wr HBw.out k hk
                rw [(bnew wr _).cell (p := ⟨b, off + k, none⟩) (World.block_lt_of_cell? _ _ h2)]; exact h2
              have HX5 : Hid ((wr.alloc (.cells #[] 2)).ownsRow wr.heap.size 2 1 (.slice (some ⟨wr.heap.size, 0, none⟩) 0 0) 0 (ints []) ∧ Below wr.heap.size wr (wr.alloc (.cells #[] 2)) ∧ wr.heap.size ≤ (wr.alloc (.cells #[] 2)).heap.size) := ⟨World.ownsRow_lit wr #[] 0 (Nat.le_refl _) (by unfold maxLen; omega) rfl, bnew _ _, by simp⟩
              have HE := hide (thr_end HH.out)
              have eI : thrI 256 f = bI (thr f 255) := by unfold thrI; rw [if_pos (his_B HH.out)]
              have eF : thrF 256 f = fI (thr f 255) := by unfold thrF; rw [if_pos (his_B HH.out)]
              have HEI := hide (And.intro eI eF)
              have HBwr := hide (HBT.out wr HBw.out)
              have HRT := hide HPT.out.row
              have HRL := hide HPL.out.row
              clear eI eF HPT HPL HBw HZ3 ht hlt g1
              generalize hsb : someB f 255 = SB at *
              clear hsb
              go_wp2_with (refine growPx _ rfl _ _ rfl wr.heap.size _ 0 [] rfl wr HX5.out.1 HX5.out.2.1 HX5.out.2.2 b off 256 c f rfl HZr.out (by omega) ?_)
              intro v7 w7 ho7 hb7
              obtain ⟨a7, c7, b7, rfl, ow7, -⟩ := ow_fl ho7
              have cT := implThreshold_any a7 256 c7 f (by omega) w7 ow7.px
              have HB7 := hide hb7
              clear ho7 hb7 ow7 HX5 HZr
              go_wp2_with fail
              refine cT.mono ?_
              rintro e w8 ⟨rfl, hb⟩
              have hb8 := HB7.out.trans (hb.mono HB7.out.size)
              have HB8 := hide (bnext HBwr.out (Nat.le_refl _) hb8)
              have HT8 := hide (HRT.out.below hb8 (by have := HLb.out; have := HTL.out; omega))
              have HL8 := hide (HRL.out.below hb8 HLb.out)
              clear cT hb hb8 HB7 HRT HRL HBwr
              rw [HEI.out.1, HEI.out.2]
              rcases HE.out with ⟨e1, e2, e3⟩ | ⟨e1, e2, B, hB, e3, hLB, hle, hlt, hpos⟩
              · rw [e2, e3]
                subst e1
                clear HE HEI HT8 HL8 e2 e3
                go_wp2_with fail
                go_ret
                exact ⟨rfl, HB8.out⟩
              · rw [e2, e3]
                subst e1
                have hBi : (B : Int) < 255 := by omega
                have hB4 : ¬ (254 : Int) < (B : Int) := by omega
                have hLB' : (lwt f B == 0) = false := by simpa using hLB
                have cL := (HL8.out B hB).1
                have HLE := hide hle
                have HLT := hide hlt
                have HPO := hide hpos
                have HPB := hide (hpos B hB hLB)
                clear HE HEI e2 e3 hle hlt hpos
                go_wp2_with fail
                go_loopw [17] (fun i wr => ∃ t : Nat, i = .int .i64 t ∧ t ≤ 255 ∧ Below w8.heap.size w8 wr) (fun i _ => 255 - (intOf i).toNat)
                case atStart => exact ⟨0, rfl, by omega, Below.refl _ _⟩
                case round =>
                  obtain ⟨t, rfl, ht, hbw⟩ := hrel
                  have HBw := hide hbw
                  clear hbw cL
                  by_cases hlt : t < 255
                  · have hti : (t : Int) < 255 := by omega
                    have w2' : IntKind.i64.wrap ((t : Int) + 1) = (t : Int) + 1 := by rw [IntKind.wrap_i64]; omega
                    have HMe : Hid (255 - (t + 1) < 255 - t) := by show _ < _; omega
                    have HJ1 : Hid (t + 1 ≤ 255) := by show _ ≤ _; omega
                    have cLt : wr.cell? ⟨Lb, t, none⟩ = some (.int .i64 (lwt f t)) := (HBw.out.cell (p := ⟨Lb, t, none⟩) (World.block_lt_of_cell? _ _ (HL8.out t hlt).1)).trans (HL8.out t hlt).1
                    have cLB : wr.cell? ⟨Lb, B, none⟩ = some (.int .i64 (lwt f B)) := (HBw.out.cell (p := ⟨Lb, B, none⟩) (World.block_lt_of_cell? _ _ (HL8.out B hB).1)).trans (HL8.out B hB).1
                    have cTt : wr.cell? ⟨T, t, none⟩ = some (.int .i64 (tpw f t)) := (HBw.out.cell (p := ⟨T, t, none⟩) (World.block_lt_of_cell? _ _ (HT8.out t hlt).1)).trans (HT8.out t hlt).1
                    have cTB : wr.cell? ⟨T, B, none⟩ = some (.int .i64 (tpw f B)) := (HBw.out.cell (p := ⟨T, B, none⟩) (World.block_lt_of_cell? _ _ (HT8.out B hB).1)).trans (HT8.out B hB).1
                    by_cases g0 : lwt f t = 0
                    · rw [g0] at cLt
                      clear cLB cTt cTB hLB hLB'
                      go_wp2_with fail
                      go_roundw
                      case rel => exact ⟨t + 1, by simp, HJ1.out, HBw.out⟩
                      case measure => simpa [intOf] using HMe.out
                    have g0' : (lwt f t == 0) = false := by simpa using g0
                    by_cases gB : t = B
                    · subst gB
                      clear cLB cTt cTB hLB hLB'
                      go_wp2_with fail
                      go_roundw
                      case rel => exact ⟨t + 1, by simp, HJ1.out, HBw.out⟩
                      case measure => simpa [intOf] using HMe.out
                    have gB' : ¬ (t : Int) = (B : Int) := by omega
                    have pt := HPO.out t hlt g0
                    have mt := (HH.out.more hlt).2.2.2
                    have mB := (HH.out.more hB).2.2.2
                    have c1 : ∀ w' : World, Calls Try.prog 7 #[.int .i64 (tpw f t), .int .i64 (lwt f t), .int .i64 (tpw f B), .int .i64 (lwt f B)] w' fun e w'' => e = .returned (.bool false) ∧ Below w'.heap.size w' w'' := fun w' =>
                      (above_any _ _ _ _ (by omega) (by omega) (by omega) (by have := HPB.out; omega) w').mono fun e w'' ⟨h1, n, h2⟩ => ⟨by rw [h1, decide_eq_false (HLE.out t hlt g0)], by rw [h2]; exact below_drewN (Below.refl _ _) _⟩
                    have c2 : t < B → ∀ w' : World, Calls Try.prog 7 #[.int .i64 (tpw f B), .int .i64 (lwt f B), .int .i64 (tpw f t), .int .i64 (lwt f t)] w' fun e w'' => e = .returned (.bool true) ∧ Below w'.heap.size w' w'' := fun h w' =>
                      (above_any _ _ _ _ (by omega) (by have := HPB.out; omega) (by omega) (by omega) w').mono fun e w'' ⟨h1, n, h2⟩ => ⟨by rw [h1, decide_eq_true (HLT.out t h g0)], by rw [h2]; exact below_drewN (Below.refl _ _) _⟩
                    clear mt mB pt
                    generalize lwt f t = L1 at *
                    generalize lwt f B = L2 at *
                    generalize tpw f t = T1 at *
                    generalize tpw f B = T2 at *
                    have SK : Nonempty (Up wr) := up_ne wr
                    go_upto_region 43 with fail
                    have u1 := fun p : Up wr => p.cell cLt
                    have u2 := fun p : Up wr => p.cell cLB
                    have u3 := fun p : Up wr => p.cell cTt
                    have u4 := fun p : Up wr => p.cell cTB
                    clear cLt cLB cTt cTB
                    by_cases gl : t < B
                    · have gli : decide ((t : Int) < (B : Int)) = true := decide_eq_true (by omega)
                      have c2' := c2 gl
                      clear c2 gB gB' ht hlt
                      refine region_up (by kernel_rfl) (by kernel_rfl) ?_
                      repeat (go_big_quiet_step ((go_at_call 7; first | with_reducible exact calls_up (c1 _) | with_reducible exact calls_up (c2' _))))
                      refine wpQuiet_nil ?_
                      intro _ hw2
                      obtain ⟨pq, hw3⟩ := hw2
                      subst hw3
                      have HB2 := hide (bnext HBw.out (Nat.le_refl _) pq.below)
                      clear u1 u2 u3 u4 c1 c2'
                      go_wp2_with fail
                      go_roundw
                      case rel => exact ⟨t + 1, by simp, HJ1.out, HB2.out⟩
                      case measure => simpa [intOf] using HMe.out
                    · have gli : decide ((t : Int) < (B : Int)) = false := decide_eq_false (by omega)
                      clear c2 gB gB' ht hlt
                      refine region_up (by kernel_rfl) (by kernel_rfl) ?_
                      repeat (go_big_quiet_step ((go_at_call 7; with_reducible exact calls_up (c1 _))))
                      refine wpQuiet_nil ?_
                      intro _ hw2
                      obtain ⟨pq, hw3⟩ := hw2
                      subst hw3
                      have HB2 := hide (bnext HBw.out (Nat.le_refl _) pq.below)
                      clear u1 u2 u3 u4 c1
                      go_wp2_with fail
                      go_roundw
                      case rel => exact ⟨t + 1, by simp, HJ1.out, HB2.out⟩
                      case measure => simpa [intOf] using HMe.out
                  · obtain rfl : t = 255 := by omega
                    have hti : ¬ (255 : Int) < 255 := by omega
                    have HF := hide (bnext HB8.out (Nat.le_refl _) HBw.out)
                    go_wp2_with fail
                    go_ret
                    exact ⟨rfl, HF.out⟩

end Go.Proofs.Ytionmmmmmjjciaa

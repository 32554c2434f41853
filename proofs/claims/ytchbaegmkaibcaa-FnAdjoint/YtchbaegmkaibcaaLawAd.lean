/- Dilating and eroding: the law, walked. -/
import Derived.Test.YtchbaegmkaibcaaDdl
import Derived.Test.YtchbaegmkaibcaaWwi
import Derived.Test.YtchbaegmkaibcaaSm8
import Derived.Test.YtchbaegmkaibcaaDlw
import Derived.Test.YtchbaegmkaibcaaL2a
import Derived.Test.YtchbaegmkaibcaaQup
import Derived.Test.YtchbaegmkaibcaaBxs
import Derived.Test.YtchbaegmkaibcaaRgv
import Derived.Test.YtchbaegmkaibcaaRwb
import Derived.Laws.AppendOwnNone
import Derived.BigRegion
namespace Go.Proofs.Ytchbaegmkaibcaa
open Go.RowKit

theorem growCG (w : World) {ops : Array Oper} {rest : List Oper} {o : Oper} {a : Act} {Q : Exit → Act → World → Prop} (hgd : o.guard = none) (s x : Operand) (t e : TypeId) (sz by8 : Nat) (z : Value) (ti : TypeInfo)
    (ht : Try.prog.underlying t = some (.slice e)) (hi1 : Try.prog.info? e = some ti) (hi2 : ti.zero = some z) (hi3 : ti.size = sz) (hi4 : ti.bytes = by8) (hzs : z.cells.size = sz) (h0 : 0 < sz) (h8 : by8 ≤ 1000)
    (ho : o.op = .call { callee := .builtin .append, args := #[s, x], argTypes := #[t, t] }) (B : Nat) (v : Value) (n : Nat) (L : List Int) (hs : a.eval s = v) (w0 : World) (hown : w.ownsRow B e sz v n (ints L))
    (hb : Below B w0 w) (hB : B ≤ w.heap.size) (ad : Option Addr) (m c : Nat) (f : Nat → Int) (hx : a.eval x = .slice ad m c) (hnil : ad = none → m = 0 ∧ c = 0) (hpx : Px ad (m * sz) f w) (hn : n + m ≤ 100000)
    (h : ∀ v' w', w'.ownsRow B e sz v' (n + m) (ints (L ++ fl f (m * sz))) → Below B w0 w' → wpList Try.prog ops Q rest (a.put o.dst v') w') :
    wpList Try.prog ops Q (o :: rest) a w := by
  cases ad with
  | none =>
    obtain ⟨rfl, rfl⟩ := hnil rfl
    refine wpList_append_own_none hgd s x t ho B e ti sz ht hi1 v n (ints L) hs hown hx ?_
    refine h v w ?_ hb
    rw [Nat.zero_mul]
    simpa [fl] using hown
  | some ad =>
    refine wpList_append_own _ hgd s x t ho B e ti z sz by8 ht hi1 hi2 hi3 hi4 hzs h0 v n (ints L) hs hown ad m c (ints (fl f (m * sz))) hx (by rw [ints_length, fl_len]) ?_ (ints_one _) (by unfold maxLen; omega) (Nat.le_trans (Nat.mul_le_mul hn h8) (by omega)) hB ?_
    · intro j u hu
      have hj : j < m * sz := by
        have := (List.getElem?_eq_some_iff.1 hu).1
        rwa [ints_length, fl_len] at this
      rcases hpx with h0 | ⟨b, off, ha, hc⟩
      · omega
      · cases ha
        rw [show (⟨b, off, none⟩ : Addr).add j = ⟨b, off + j, none⟩ by unfold Addr.add; split <;> simp_all, hc j hj, ← hu, ints_at _ _ (by rw [fl_len]; exact hj), fl_at _ _ _ hj]
    · intro v' w' h1 h2 _
      have hr3 : ∀ q, Value.ownBlock v = some q → B ≤ q := fun q hq => (hown.lt q hq).1
      have hB3 : Below B w w' := (Below.refl _ _).grown h2 hB hr3
      refine h v' w' ?_ (hb.trans hB3)
      rw [ints_append]; exact h1

theorem step_guardV {P : Program} {ops : Array Oper} {o : Oper} {a : Act} {w : World} {K : Act → World → Prop} {Q : Exit → Act → World → Prop} {E : Prop} {j : Nat} {b : Bool} {d : Tmp} {o' : Oper} (hg : o.guard = some (j, b)) (ho : ops[j]? = some o') (hd : o'.dst = some d) (hv : a.tmps[d]?.getD undef = .bool b) (h : Oper.wp P o a w K Q) : if Region.wanted o (yielded ops a.tmps) = true then Oper.wp P o a w K Q else E := by
  refine step_guard hg ho hd ?_ hv h
  by_cases hl : d < a.tmps.size
  · exact hl
  · rw [Array.getElem?_eq_none (Nat.le_of_not_lt hl)] at hv
    simp [undef] at hv
theorem Px.congr' {a : Option Addr} {n : Nat} {f g : Nat → Int} {w : World} (h : Px a n f w) (e : ∀ k, k < n → f k = g k) : Px a n g w := by
  rcases h with h | ⟨b, off, ha, hc⟩
  · exact .inl h
  · exact .inr ⟨b, off, ha, fun k hk => by rw [← e k hk]; exact hc k hk⟩
theorem cellU' {w w' : World} {x : Addr} {v : Value} (hb : Below w.heap.size w w') (h : w.cell? x = some v) : w'.cell? x = some v := (hb.cell (World.block_lt_of_cell? _ _ h)).trans h
theorem px_lt {a : Option Addr} {n : Nat} {f : Nat → Int} {w : World} (h : Px a n f w) {B : Nat} (hB : w.heap.size ≤ B) : n = 0 ∨ ∀ b off, a = some ⟨b, off, none⟩ → b ≠ B := by
  by_cases h0 : n = 0
  · exact .inl h0
  · obtain ⟨b, off, ha, hb⟩ := h.lt (by omega)
    refine .inr fun b' off' e => ?_
    rw [ha] at e
    cases e
    omega
theorem Px.keptX {a : Option Addr} {n p : Nat} {f : Nat → Int} {w w' : World} (h : Px a n f w) (hk : Kept p w w') (hp : n = 0 ∨ ∀ b off, a = some ⟨b, off, none⟩ → b ≠ p) : Px a n f w' := by
  rcases hp with h0 | hp
  · exact .inl h0
  · exact h.kept hk hp
/-- the brush of the nought alone -/
theorem dot_ok : brushB 1 (fun _ => 0) = true := by decide
/-- what each operation of the last region leaves -/
def adH (W H : Int) (x : Option Addr) (n c : Nat) (f : Nat → Int) (y : Option Addr) (cy : Nat) (g : Nat → Int) (dot : Value) : Nat → Value → World → Prop := fun j v w =>
  (j = 0 ∨ j = 4 → v = im W H x n c) ∧ (j = 7 ∨ j = 11 → v = im W H y n cy) ∧ (j = 2 ∨ j = 9 → v = dot) ∧ (j = 1 ∨ j = 3 → ∃ a k, v = im W H a n k ∧ Px a n f w) ∧ (j = 8 ∨ j = 10 → ∃ a k, v = im W H a n k ∧ Px a n g w) ∧ (j = 5 ∨ j = 6 ∨ j = 12 ∨ j = 13 ∨ j = 14 → v = .bool true)
theorem adH_up {W H : Int} {x : Option Addr} {n c : Nat} {f : Nat → Int} {y : Option Addr} {cy : Nat} {g : Nat → Int} {dot : Value} {w w' : World} (hb : Below w.heap.size w w') : ∀ j v, adH W H x n c f y cy g dot j v w → adH W H x n c f y cy g dot j v w' := fun j v ⟨h1, h2, h3, h4, h5, h6⟩ =>
  ⟨h1, h2, h3, fun e => by obtain ⟨a, k, e1, e2⟩ := h4 e; exact ⟨a, k, e1, e2.below hb⟩, fun e => by obtain ⟨a, k, e1, e2⟩ := h5 e; exact ⟨a, k, e1, e2.below hb⟩, h6⟩

set_option maxRecDepth 100000 in
set_option maxHeartbeats 16000000 in
theorem fnAdjoint_walk (c0 : Option Addr) (n0 k0 : Nat) (c1 : Option Addr) (n1 k1 : Nat) (w : World) (hy0 : Bytes c0 n0 w) (hy1 : Bytes c1 n1 w) :
    Calls Try.prog 3 #[.slice c0 n0 k0, .slice c1 n1 k1] w fun e w' => e = .returned (.bool true) ∧ Below w.heap.size w w' := by
  have g1 := big_any c0 n0 k0
  have g2 := big_any c1 n1 k1
  have HB1 := hide hy0
  have HB2 := hide hy1
  clear hy0 hy1
  go_enter Try.func3, Try.ntmps3
  go_wp2_with fail
  refine (g1 _).mono ?_
  rintro e w1 ⟨rfl, rfl⟩
  cases hd1 : decide (1048576 < n0)
  case true =>
    clear hd1
    go_wp2_with fail
    go_ret
    exact ⟨rfl, Below.refl _ _⟩
  go_wp2_with fail
  refine (g2 _).mono ?_
  rintro e w2 ⟨rfl, rfl⟩
  cases hd2 : decide (1048576 < n1)
  case true =>
    clear hd2
    go_wp2_with fail
    go_ret
    exact ⟨rfl, Below.refl _ _⟩
  clear hd1 hd2 g1 g2
  have cP := drawDilate_any c0 n0 k0 w2 HB1.out
  go_wp2_with fail
  refine cP.mono ?_
  rintro e w3 ⟨W, H, x, n, c, f, a2, m, cb, g, rfl, hn, hm, hmc, hpx, hpg, hnil, hb⟩
  have hb4 := bnew w3 (.cells #[.int .i64 W, .int .i64 H, .slice x n c] 26)
  have HWA : Hid (Below w2.heap.size w2 (w3.alloc (.cells #[.int .i64 W, .int .i64 H, .slice x n c] 26))) := bnext hb (Nat.le_refl _) hb4
  have HS4 := hide ((St.start w3).box [.int .i64 W, .int .i64 H, .slice x n c] 26)
  have HPA := hide (hpx.below hb4)
  have HPG := hide (hpg.below hb4)
  have HWB : Hid (Below w2.heap.size w2 w3) := hb
  have HM : Hid (n ≤ 101 ∧ m ≤ 27 ∧ m ≤ cb) := ⟨hn, hm, hmc⟩
  have HNil := hide hnil
  clear cP hb hb4 hpx hpg hn hm hmc hnil HB1
  have cR := drawRunsOf_any c1 n1 k1 _ (HB2.out.below HWA.out)
  go_upto_region 4 with fail
  generalize hw4 : w3.alloc (.cells #[.int .i64 W, .int .i64 H, .slice x n c] 26) = w4 at *
  clear hw4 HB2
  go_wp2_with fail
  refine cR.mono ?_
  rintro e w5 ⟨W5, H5, x5, b5, m5, c5, f5, rfl, hm5, ho5, hb5, hb⟩
  have HS6 := hide ((HS4.out.next hb).box [.int .i64 W5, .int .i64 H5, .slice x5 m5 c5] 26)
  have hb6 := bnew w5 (.cells #[.int .i64 W5, .int .i64 H5, .slice x5 m5 c5] 26)
  have hb46 := hb.trans (hb6.mono hb.size)
  have HP5 := hide (ho5.px.below hb6)
  have HPA6 := hide (HPA.out.below hb46)
  have HPG6 := hide (HPG.out.below hb46)
  have HM5 := hide hm5
  clear cR ho5 hb5 hb hb6 hb46 hm5 HS4 HPA HPG HWA
  go_upto_region 5 with fail
  generalize hw6 : w5.alloc (.cells #[.int .i64 W5, .int .i64 H5, .slice x5 m5 c5] 26) = w6 at *
  clear hw6
  generalize w5.heap.size = R5 at *
  generalize w3.heap.size = R3 at HS6 ⊢
  obtain ⟨i0, i1, i2⟩ := HS6.out.im3 1 rfl
  have cD := fun w' h h' => specDilate_any W H x n c f (by have := HM.out; omega) a2 m cb g (by have := HM.out; omega) w' h h'
  cases hq : mbB W H n f m g
  · rw [hq] at cD
    simp only [pickI_f, pickN_f] at cD
    go_wp2_with fail
    refine (cD _ HPA6.out HPG6.out).mono ?_
    rintro e w7 ⟨a7, c7, b7, rfl, -, -, hb⟩
    have HF := hide (HS6.out.next hb).below
    have ff : (Instr.field 26 (im 0 0 a7 0 c7) 0).run Try.prog w7 = .ok (.int .i64 0) w7 := rfl
    clear cD hb HS6
    go_wp2_with fail
    go_ret
    exact ⟨rfl, bnext HWB.out (Nat.le_refl _) HF.out⟩
  have hmb : maskB W H n f = true ∧ brushB m g = true := by unfold mbB at hq; rwa [Bool.and_eq_true] at hq
  obtain ⟨hok, ⟨hW1, hW2⟩, ⟨hH1, hH2⟩, hnW, hn1, hn2, hbf⟩ := maskB_ok hmb.1
  have HMB := hide hmb
  have HNW : Hid ((1 ≤ W ∧ W ≤ 64) ∧ (n : Int) = W * H ∧ 1 ≤ n ∧ n ≤ 101) := ⟨⟨hW1, hW2⟩, hnW, hn1, HM.out.1⟩
  have HBF := hide hbf
  have tW0 : (W == 0) = false := by simp; omega
  have tW0' : decide (W = 0) = false := decide_eq_false (by omega)
  rw [hq] at cD
  simp only [pickI_t, pickN_t] at cD
  clear hq hmb hok hW1 hW2 hH1 hH2 hnW hn1 hn2 hbf
  go_wp2_with fail
  refine (cD _ HPA6.out HPG6.out).mono ?_
  rintro e w7 ⟨a7, c7, b7, rfl, -, -, hb⟩
  have HS7 := hide (HS6.out.next hb)
  have HPA7 := hide (HPA6.out.below hb)
  have HPG7 := hide (HPG6.out.below hb)
  have HP57 := hide (HP5.out.below hb)
  clear hb HS6 HPA6 HPG6 HP5 i0 i1 i2
  obtain ⟨i0, i1, i2⟩ := HS7.out.im3 1 rfl
  have ff : (Instr.field 26 (im W H a7 n c7) 0).run Try.prog w7 = .ok (.int .i64 W) w7 := rfl
  go_wp2_with fail
  refine (cD _ HPA7.out HPG7.out).mono ?_
  rintro e w8 ⟨a8, c8, b8, rfl, ho8, hb8, hb⟩
  obtain ⟨rfl, -⟩ : a8 = some ⟨b8, 0, none⟩ ∧ True := by
    rcases ho8 with h | ⟨h, -⟩
    · have := HNW.out; omega
    · exact ⟨h, trivial⟩
  have hb9 := bnew w8 (.cells #[.int .i64 W, .int .i64 H, .slice (some ⟨b8, 0, none⟩) n c8] 26)
  have hb79 := hb.trans (hb9.mono hb.size)
  have HS9 := hide ((HS7.out.own hb ho8.v hb8).box [.int .i64 W, .int .i64 H, .slice (some ⟨b8, 0, none⟩) n c8] 26)
  have HPA9 := hide (HPA7.out.below hb79)
  have HPG9 := hide (HPG7.out.below hb79)
  have HP59 := hide (HP57.out.below hb79)
  have HB8 : Hid (w7.heap.size ≤ b8) := hb8.resolve_left (by have := HNW.out; omega)
  have HBD : Hid (bit1 (dilS W H f m g) n) := fun j hj => by have := dilS_bd HNW.out.2.1 HBF.out m g j; omega
  have HLA := hide (px_lt HPA7.out HB8.out)
  have HLG := hide (px_lt HPG7.out HB8.out)
  have HL5 := hide (px_lt HP57.out HB8.out)
  clear cD ff hb hb8 hb9 hb79 ho8 HS7 HPA7 HPG7 HP57 i0 i1 i2
  go_upto_region 8 with fail
  generalize hw9 : w8.alloc (.cells #[.int .i64 W, .int .i64 H, .slice (some ⟨b8, 0, none⟩) n c8] 26) = w9 at *
  clear hw9
  generalize w8.heap.size = R8 at *
  go_wp2_with fail
  go_loopw [9] (fun i wr => ∃ (k : Nat) (h : Nat → Int), k ≤ n ∧ i = .int .i64 k ∧ bit1 h n ∧ St w3 [(R8, [.int .i64 W, .int .i64 H, .slice (some ⟨b8, 0, none⟩) n c8]), (R5, [.int .i64 W5, .int .i64 H5, .slice x5 m5 c5]), (R3, [.int .i64 W, .int .i64 H, .slice x n c])] [(some ⟨b8, 0, none⟩, b8, n, fun q => .int .i64 (h q))] wr ∧ Px x n f wr ∧ Px a2 (m * 2) g wr ∧ Px x5 m5 f5 wr) (fun i _ => n - (intOf i).toNat)
  case atStart => exact ⟨0, _, by omega, rfl, HBD.out, HS9.out, HPA9.out, HPG9.out, HP59.out⟩
  case round =>
    obtain ⟨k, h, hk, rfl, hbh, hS, hpa, hpg, hp5⟩ := hrel
    have HS := hide hS
    have HBH := hide hbh
    have HPa := hide hpa
    have HPg := hide hpg
    have HP5 := hide hp5
    clear hS hbh hpa hpg hp5 HS9 HPA9 HPG9 HP59 HBD
    obtain ⟨j0, j1, j2⟩ := HS.out.im3 0 rfl
    obtain ⟨k0', k1', k2'⟩ := HS.out.im3 1 rfl
    by_cases hlt : k < n
    · have hki : (k : Int) < (n : Int) := by omega
      have HJ1 : Hid (k + 1 ≤ n) := by show _ ≤ _; omega
      have HMe : Hid (n - (k + 1) < n - k) := by show _ < _; omega
      have hkw : IntKind.i64.wrap ((k : Int) + 1) = (k : Int) + 1 := by have := HNW.out; rw [IntKind.wrap_i64]; omega
      go_upto_region 11 with fail
      go_cut [59] (fun s wc => ∃ q : Bool, s = .bool q ∧ wr = wc)
      case first =>
        by_cases hk5 : k < m5
        · have hk5i : (k : Int) < (m5 : Int) := by omega
          obtain ⟨bz, oz, rfl, hz⟩ := HP5.out.at hk5
          by_cases hf5 : f5 k = 1
          · rw [hf5] at hz
            go_wp2_with fail
            go_meet
            exact ⟨_, rfl, rfl⟩
          · have hf5' : (f5 k == 1) = false := by simpa using hf5
            generalize f5 k = F5 at *
            go_wp2_with fail
            go_meet
            exact ⟨_, rfl, rfl⟩
        · have hk5i : ¬ (k : Int) < (m5 : Int) := by omega
          go_wp2_with fail
          go_meet
          exact ⟨_, rfl, rfl⟩
      case rest =>
        obtain ⟨q, rfl, hw⟩ := hcut
        subst hw
        cases q
        · go_wp2_with fail
          go_roundw
          case rel => exact ⟨k + 1, h, HJ1.out, by simp, HBH.out, HS.out, HPa.out, HPg.out, HP5.out⟩
          case measure => simpa [intOf] using HMe.out
        · obtain ⟨Z, hZ, hZb⟩ : ∃ Z : Int, (n1 : Int).tmod 2 = Z ∧ (Z = 0 ∨ Z = 1) := ⟨_, rfl, by rw [Int.tmod_eq_emod_of_nonneg (by omega)]; omega⟩
          obtain ⟨r1, r2⟩ := HS.out.atO hlt
          have HU := hide (HS.out.upd hlt Z)
          have HBU : Hid (bit1 (updN h k Z) n) := fun j hj => by
            unfold updN
            by_cases e : j = k
            · rw [if_pos e]; exact hZb
            · rw [if_neg e]; exact HBH.out j hj
          have hk8 : Kept b8 wr (wr.setCell ⟨b8, k, none⟩ (.int .i64 Z)) := (Kept.refl b8 wr).setCell (a := ⟨b8, k, none⟩) rfl _
          have HPa2 := hide (HPa.out.keptX hk8 HLA.out)
          have HPg2 := hide (HPg.out.keptX hk8 HLG.out)
          have HP52 := hide (HP5.out.keptX hk8 HL5.out)
          have hZw : IntKind.i64.wrap Z = Z := by rw [IntKind.wrap_i64]; omega
          clear HS HPa HPg HP5 HBH hk8 hZb k0' k1' k2'
          have hnz : ¬ ((2 : Int) = 0) := by omega
          go_wp2_with fail
          go_roundw
          case rel => exact ⟨k + 1, _, HJ1.out, by simp, HBU.out, HU.out, HPa2.out, HPg2.out, HP52.out⟩
          case measure => simpa [intOf] using HMe.out
    · obtain rfl : k = n := by omega
      have hki : ¬ (k : Int) < (k : Int) := by omega
      clear hlt hk
      have HNWk := HNW
      clear HNW
      have HMQ : Hid (mbB W H k f m g = true) := by show _ = _; unfold mbB; rw [HMB.out.1, HMB.out.2]; rfl
      have HMH : Hid (maskB W H k h = true) := mask_of HMB.out.1 HBH.out
      have HMQ2 : Hid (mbB W H k h m g = true) := by show _ = _; unfold mbB; rw [HMH.out, HMB.out.2]; rfl
      have HMD1 : Hid (mbB W H k f 1 (fun _ => 0) = true) := by show _ = _; unfold mbB; rw [HMB.out.1, dot_ok]; rfl
      have HMD2 : Hid (mbB W H k h 1 (fun _ => 0) = true) := by show _ = _; unfold mbB; rw [HMH.out, dot_ok]; rfl
      have HKS : Hid (k ≤ 1048576 ∧ 0 < k ∧ m ≤ 1048576) := by have := HNWk.out; have := HM.out; show _ ∧ _; omega
      clear HMH HMB
      obtain ⟨tj, hj1, hj2, hj3, hj4⟩ := infoS
      have HJ1 := hide hj1
      have HJ2 := hide hj2
      have HJ3 := hide hj3
      have HJ4 := hide hj4
      clear hj1 hj2 hj3 hj4 k0' k1' k2' tW0 tW0' HLA HLG HL5 HM5
      have HPh : Hid (Px (some ⟨b8, 0, none⟩) k h wr) := by
        rcases HS.out.nthO 0 rfl with h0 | ⟨-, h0⟩
        · exact .inl h0
        · exact Row.px h0
      obtain ⟨i0, i1, i2⟩ := HS.out.im3 2 rfl
      have cC := copyImage_any W H x k c f HKS.out.1 HKS.out.2.1 wr HPa.out
      go_wp2_with fail
      refine cC.mono ?_
      rintro e wDa ⟨bcD, ccD, rfl, hrc, hbc, hb⟩
      have HPcD := hide hrc.px
      have HBDa := hide hb
      have HXD : Hid ((wDa.alloc (.cells #[] 35)).ownsRow wDa.heap.size 35 2 (.slice (some ⟨wDa.heap.size, 0, none⟩) 0 0) 0 (ints []) ∧ Below wDa.heap.size wDa (wDa.alloc (.cells #[] 35)) ∧ wDa.heap.size ≤ (wDa.alloc (.cells #[] 35)).heap.size) := ⟨World.ownsRow_lit wDa #[] 0 (Nat.le_refl _) (by unfold maxLen; omega) rfl, bnew _ _, by simp⟩
      have HGxD := hide (HPg.out.below (hb.trans ((bnew wDa (.cells #[] 35)).mono hb.size)))
      clear cC hrc hbc hb i0 i1 i2
      go_wp2_with (refine growCG _ rfl _ _ 27 35 2 16 (vSpot2 0 0) tj Try.underlying27 HJ1.out HJ2.out HJ3.out HJ4.out rfl (by omega) (by omega) rfl wDa.heap.size _ 0 [] rfl wDa HXD.out.1 HXD.out.2.1 HXD.out.2.2 a2 m cb g rfl HNil.out HGxD.out (by have := HM.out; omega) ?_)
      intro vDb wDb hoDb hbDb
      obtain ⟨aDb, cDb, rfl, hcDb⟩ := own_isS hoDb
      have HPDb : Hid (Px aDb (m * 2) g wDb) := by
        have := (own_pxS hoDb).1
        try simp only [Nat.zero_add] at this
        exact this.congr' fun q hq => by simpa using fl_at g (m * 2) q hq
      have hccDb : m ≤ cDb := by omega
      have hbt := HBDa.out.trans (hbDb.mono HBDa.out.size)
      have HBDb := hide hbt
      have cI := implDilate_any W H (some ⟨bcD, 0, none⟩) k ccD f HKS.out.1 aDb m cDb g HKS.out.2.2 hccDb wDb (HPcD.out.below hbDb) HPDb.out
      rw [HMQ.out] at cI
      simp only [pickI_t, pickN_t] at cI
      clear hoDb hbDb hcDb HXD HGxD hbt
      go_wp2_with fail
      refine cI.mono ?_
      rintro e wDc ⟨aDc, cDc, bDc, rfl, hoDc, hbDc, hb⟩
      have hbDd := bnew wDc (.cells #[.int .i64 W, .int .i64 H, .slice aDc k cDc] 26)
      have hbt := (HBDb.out.trans (hb.mono HBDb.out.size)).trans (hbDd.mono (Nat.le_trans HBDb.out.size hb.size))
      have HSDd := hide (((HS.out.next HBDb.out).own hb hoDc.v hbDc).box [.int .i64 W, .int .i64 H, .slice aDc k cDc] 26)
      have HPaDd := hide (HPa.out.below hbt)
      have HPgDd := hide (HPg.out.below hbt)
      have HPrDd := hide (hoDc.px.below hbDd)
      have HPhDd := hide (HPh.out.below hbt)
      clear cI hoDc hbDc hb hbDd hbt HPcD HBDa HBDb HPDb
      go_upto_region 14 with fail
      generalize hwDd : wDc.alloc (.cells #[.int .i64 W, .int .i64 H, .slice aDc k cDc] 26) = wDd at *
      clear hwDd
      generalize wDc.heap.size = RDc at *
      clear HS HPa HPg HPh HP5
      obtain ⟨i0, i1, i2⟩ := HSDd.out.im3 1 rfl
      have cC := copyImage_any W H (some ⟨b8, 0, none⟩) k c8 h HKS.out.1 HKS.out.2.1 wDd HPhDd.out
      go_wp2_with fail
      refine cC.mono ?_
      rintro e wEa ⟨bcE, ccE, rfl, hrc, hbc, hb⟩
      have HPcE := hide hrc.px
      have HBEa := hide hb
      have HXE : Hid ((wEa.alloc (.cells #[] 35)).ownsRow wEa.heap.size 35 2 (.slice (some ⟨wEa.heap.size, 0, none⟩) 0 0) 0 (ints []) ∧ Below wEa.heap.size wEa (wEa.alloc (.cells #[] 35)) ∧ wEa.heap.size ≤ (wEa.alloc (.cells #[] 35)).heap.size) := ⟨World.ownsRow_lit wEa #[] 0 (Nat.le_refl _) (by unfold maxLen; omega) rfl, bnew _ _, by simp⟩
      have HGxE := hide (HPgDd.out.below (hb.trans ((bnew wEa (.cells #[] 35)).mono hb.size)))
      clear cC hrc hbc hb i0 i1 i2
      go_wp2_with (refine growCG _ rfl _ _ 27 35 2 16 (vSpot2 0 0) tj Try.underlying27 HJ1.out HJ2.out HJ3.out HJ4.out rfl (by omega) (by omega) rfl wEa.heap.size _ 0 [] rfl wEa HXE.out.1 HXE.out.2.1 HXE.out.2.2 a2 m cb g rfl HNil.out HGxE.out (by have := HM.out; omega) ?_)
      intro vEb wEb hoEb hbEb
      obtain ⟨aEb, cEb, rfl, hcEb⟩ := own_isS hoEb
      have HPEb : Hid (Px aEb (m * 2) g wEb) := by
        have := (own_pxS hoEb).1
        try simp only [Nat.zero_add] at this
        exact this.congr' fun q hq => by simpa using fl_at g (m * 2) q hq
      have hccEb : m ≤ cEb := by omega
      have hbt := HBEa.out.trans (hbEb.mono HBEa.out.size)
      have HBEb := hide hbt
      have cI := implErode_any W H (some ⟨bcE, 0, none⟩) k ccE h HKS.out.1 aEb m cEb g HKS.out.2.2 hccEb wEb (HPcE.out.below hbEb) HPEb.out
      rw [HMQ2.out] at cI
      simp only [pickI_t, pickN_t] at cI
      clear hoEb hbEb hcEb HXE HGxE hbt
      go_wp2_with fail
      refine cI.mono ?_
      rintro e wEc ⟨aEc, cEc, bEc, rfl, hoEc, hbEc, hb⟩
      have hbEd := bnew wEc (.cells #[.int .i64 W, .int .i64 H, .slice aEc k cEc] 26)
      have hbt := (HBEb.out.trans (hb.mono HBEb.out.size)).trans (hbEd.mono (Nat.le_trans HBEb.out.size hb.size))
      have HSEd := hide (((HSDd.out.next HBEb.out).own hb hoEc.v hbEc).box [.int .i64 W, .int .i64 H, .slice aEc k cEc] 26)
      have HPaEd := hide (HPaDd.out.below hbt)
      have HPgEd := hide (HPgDd.out.below hbt)
      have HPrEd := hide (hoEc.px.below hbEd)
      have HPhEd := hide (HPhDd.out.below hbt)
      have HPdEd := hide (HPrDd.out.below hbt)
      clear cI hoEc hbEc hb hbEd hbt HPcE HBEa HBEb HPEb
      go_upto_region 15 with fail
      generalize hwEd : wEc.alloc (.cells #[.int .i64 W, .int .i64 H, .slice aEc k cEc] 26) = wEd at *
      clear hwEd
      generalize wEc.heap.size = REc at *
      clear HSDd HPaDd HPgDd HPhDd HPrDd
      have HAD : Hid (leB (dilS W H f m g) h k = leB f (eroS W H h m g) k) := leB_adj HNWk.out.1.1 HNWk.out.2.1 HBF.out HBH.out m g
      have tW : (W != W) = false := by simp
      have tH : (H != H) = false := by simp
      obtain ⟨d0, d1, d2⟩ := HSEd.out.im3 1 rfl
      obtain ⟨e0, e1, e2⟩ := HSEd.out.im3 0 rfl
      obtain ⟨b0, b1, b2⟩ := HSEd.out.im3 2 rfl
      obtain ⟨s0, s1, s2⟩ := HSEd.out.im3 4 rfl
      go_wp2_with fail
      have cw1 : ∀ p : Up wEd, Calls Try.prog 11 #[im W H aDc k cDc, im W H (some ⟨b8, 0, none⟩) k c8] p.w fun e w' => e = .returned (.bool (leB f (eroS W H h m g) k)) ∧ Below p.w.heap.size p.w w' := fun p => by
        have := lwithin_any W H W H aDc (some ⟨b8, 0, none⟩) k cDc c8 (dilS W H f m g) h HKS.out.1 p.w (HPdEd.out.below p.below) (HPhEd.out.below p.below)
        rwa [HAD.out] at this
      have cw2 : ∀ p : Up wEd, Calls Try.prog 11 #[im W H x k c, im W H aEc k cEc] p.w fun e w' => e = .returned (.bool (leB f (eroS W H h m g) k)) ∧ Below p.w.heap.size p.w w' := fun p => lwithin_any W H W H x aEc k c cEc f (eroS W H h m g) HKS.out.1 p.w (HPaEd.out.below p.below) (HPrEd.out.below p.below)
      generalize leB f (eroS W H h m g) k = QQ at cw1 cw2
      have tQ : (QQ != QQ) = false := by simp
      have SK : Nonempty (Up wEd) := up_ne wEd
      have ud0 := fun p : Up wEd => p.cell d0
      have ud1 := fun p : Up wEd => p.cell d1
      have ud2 := fun p : Up wEd => p.cell d2
      have ue0 := fun p : Up wEd => p.cell e0
      have ue1 := fun p : Up wEd => p.cell e1
      have ue2 := fun p : Up wEd => p.cell e2
      have ub0 := fun p : Up wEd => p.cell b0
      have ub1 := fun p : Up wEd => p.cell b1
      have ub2 := fun p : Up wEd => p.cell b2
      have us0 := fun p : Up wEd => p.cell s0
      have us1 := fun p : Up wEd => p.cell s1
      have us2 := fun p : Up wEd => p.cell s2
      clear HAD tW tH d0 d1 d2 e0 e1 e2 b0 b1 b2 s0 s1 s2
      refine region_up (by kernel_rfl) (by kernel_rfl) ?_
      repeat (go_big_quiet_step ((first | (go_at_call 11; first | with_reducible exact calls_up (cw1 _) | with_reducible exact calls_up (cw2 _)) | exact rfl)))
      refine wpQuiet_nil ?_
      intro _ hw2
      obtain ⟨pq, hw3⟩ := hw2
      subst hw3
      have hbp := pq.below
      have HSp := hide (HSEd.out.next hbp)
      have HPap := hide (HPaEd.out.below hbp)
      have HPhp := hide (HPhEd.out.below hbp)
      clear cw1 cw2 SK ud0 ud1 ud2 ue0 ue1 ue2 ub0 ub1 ub2 us0 us1 us2 hbp HSEd HPaEd HPgEd HPrEd HPhEd HPdEd
      obtain ⟨wp, hwp⟩ : ∃ wp, wp = pq.w := ⟨_, rfl⟩
      rw [← hwp] at HSp HPap HPhp
      rw [← hwp]
      clear hwp
      go_wp2_with fail
      have hbD := bnew wp (.cells #[.int .i64 0, .int .i64 0] 35)
      have HSq := hide (HSp.out.next hbD)
      have HPaq := hide (HPap.out.below hbD)
      have HPhq := hide (HPhp.out.below hbD)
      have HDot : Hid (Px (some ⟨wp.heap.size, 0, none⟩) (1 * 2) (fun _ => 0) (wp.alloc (.cells #[.int .i64 0, .int .i64 0] 35))) := .inr ⟨wp.heap.size, 0, rfl, fun q hq => by
        have : q = 0 ∨ q = 1 := by omega
        rcases this with rfl | rfl <;> simp [go_sem]⟩
      clear hbD HSp HPap HPhp
      go_upto_region 20 with fail
      generalize hwq : wp.alloc (.cells #[.int .i64 0, .int .i64 0] 35) = wq at *
      clear hwq
      generalize wp.heap.size = RD at *
      obtain ⟨b0, b1, b2⟩ := HSq.out.im3 2 rfl
      obtain ⟨s0, s1, s2⟩ := HSq.out.im3 4 rfl
      have HBs : Hid (∀ w', Below wq.heap.size wq w' → w'.cell? ⟨R3, 0, none⟩ = some (.int .i64 W) ∧ w'.cell? ⟨R3, 1, none⟩ = some (.int .i64 H) ∧ w'.cell? ⟨R3, 2, none⟩ = some (.slice x k c)) := fun w' hb => ⟨cellU' hb s0, cellU' hb s1, cellU' hb s2⟩
      have HBb : Hid (∀ w', Below wq.heap.size wq w' → w'.cell? ⟨R8, 0, none⟩ = some (.int .i64 W) ∧ w'.cell? ⟨R8, 1, none⟩ = some (.int .i64 H) ∧ w'.cell? ⟨R8, 2, none⟩ = some (.slice (some ⟨b8, 0, none⟩) k c8)) := fun w' hb => ⟨cellU' hb b0, cellU' hb b1, cellU' hb b2⟩
      clear b0 b1 b2 s0 s1 s2
      obtain ⟨AH, hAH⟩ : ∃ AH : Nat → Value → World → Prop, AH = adH W H x k c f (some ⟨b8, 0, none⟩) c8 h (.slice (some ⟨RD, 0, none⟩) 1 1) := ⟨_, rfl⟩
      have HAU : Hid (∀ w w', Below w.heap.size w w' → ∀ j v, AH j v w → AH j v w') := by rw [hAH]; exact fun _ _ => adH_up
      have HAD : Hid (∀ j v w, AH j v w ↔ adH W H x k c f (some ⟨b8, 0, none⟩) c8 h (.slice (some ⟨RD, 0, none⟩) 1 1) j v w) := by rw [hAH]; exact fun _ _ _ => Iff.rfl
      clear hAH
      refine region_opsV (fun _ w' => Below wq.heap.size wq w') (hF AH) (by kernel_rfl) (by kernel_rfl) (by kernel_rfl) (by kernel_rfl) (Below.refl _ _).drew ?_ ?_
      · refine ⟨?_, ?_, ?_, ?_, ?_, ?_, ?_, ?_, ?_, ?_, ?_, ?_, ?_, ?_, ?_, trivial⟩
        · intro u w21 au hsl hel hu hF0 hp' K hK
          have t5 : au.tmps[5]?.getD undef = .pointer (some ⟨R3, 0, none⟩) := (hel.out 5 (by kernel_rfl)).trans (by kernel_rfl)
          obtain ⟨x0, x1, x2⟩ := HBs.out w21 hF0
          refine step_plain rfl ?_
          go_simp
          exact hK.out (im W H x k c) _ (hF0) (hF_val 0 ((HAD.out _ _ _).2 ⟨fun _ => rfl, fun e => by omega, fun e => by omega, fun e => by omega, fun e => by omega, fun e => by omega⟩)) (fun j hj hf h => hF_up (HAU.out _ _ (Below.refl _ _)) 0 _ j hj h)
        · intro u w21 au hsl hel hu hF0 hp' K hK
          have h0 := ((HAD.out _ _ _).1 (PreF.get hp' 0 (by kernel_rfl))).1 (by omega)
          have t114 : au.tmps[114]?.getD undef = u 0 := hsl.out 0 114 (by kernel_rfl)
          rw [h0] at t114
          have cc := copyImage_any W H x k c f HKS.out.1 HKS.out.2.1 w21 (HPaq.out.below hF0)
          refine step_plain rfl ?_
          go_simp
          refine cc.mono ?_
          rintro e w22 ⟨bb, kk, rfl, hr, -, hb⟩
          exact hK.out _ w22 (bnext hF0 (Nat.le_refl _) hb) (hF_val 1 ((HAD.out _ _ _).2 ⟨fun e => by omega, fun e => by omega, fun e => by omega, fun _ => ⟨_, _, rfl, hr.px⟩, fun e => by omega, fun e => by omega⟩)) (fun j hj hf h => hF_up (HAU.out _ _ hb) 1 _ j hj h)
        · intro u w21 au hsl hel hu hF0 hp' K hK
          have t12 : au.tmps[12]?.getD undef = .slice (some ⟨RD, 0, none⟩) 1 1 := (hel.out 12 (by kernel_rfl)).trans (by kernel_rfl)
          refine step_plain rfl ?_
          go_simp
          exact hK.out (.slice (some ⟨RD, 0, none⟩) 1 1) _ (hF0) (hF_val 2 ((HAD.out _ _ _).2 ⟨fun e => by omega, fun e => by omega, fun _ => rfl, fun e => by omega, fun e => by omega, fun e => by omega⟩)) (fun j hj hf h => hF_up (HAU.out _ _ (Below.refl _ _)) 2 _ j hj h)
        · intro u w21 au hsl hel hu hF0 hp' K hK
          obtain ⟨a1, k1, h1, p1⟩ := ((HAD.out _ _ _).1 (PreF.get hp' 1 (by kernel_rfl))).2.2.2.1 (by omega)
          have t115 : au.tmps[115]?.getD undef = u 1 := hsl.out 1 115 (by kernel_rfl)
          rw [h1] at t115
          have h2 := ((HAD.out _ _ _).1 (PreF.get hp' 2 (by kernel_rfl))).2.2.1 (by omega)
          have t116 : au.tmps[116]?.getD undef = u 2 := hsl.out 2 116 (by kernel_rfl)
          rw [h2] at t116
          have cc := implDilate_any W H a1 k k1 f HKS.out.1 (some ⟨RD, 0, none⟩) 1 1 (fun _ => 0) (by omega) (Nat.le_refl _) w21 p1 (HDot.out.below hF0)
          rw [HMD1.out] at cc
          simp only [pickI_t, pickN_t] at cc
          refine step_plain rfl ?_
          go_simp
          refine cc.mono ?_
          rintro e w22 ⟨bb, kk, b22, rfl, ho, -, hb⟩
          have hpx := ho.px.congr' fun q hq => dil_dot HNWk.out.1.1 HNWk.out.2.1 HBF.out hq
          exact hK.out _ w22 (bnext hF0 (Nat.le_refl _) hb) (hF_val 3 ((HAD.out _ _ _).2 ⟨fun e => by omega, fun e => by omega, fun e => by omega, fun _ => ⟨_, _, rfl, hpx⟩, fun e => by omega, fun e => by omega⟩)) (fun j hj hf h => hF_up (HAU.out _ _ hb) 3 _ j hj h)
        · intro u w21 au hsl hel hu hF0 hp' K hK
          have t5 : au.tmps[5]?.getD undef = .pointer (some ⟨R3, 0, none⟩) := (hel.out 5 (by kernel_rfl)).trans (by kernel_rfl)
          obtain ⟨x0, x1, x2⟩ := HBs.out w21 hF0
          refine step_plain rfl ?_
          go_simp
          exact hK.out (im W H x k c) _ (hF0) (hF_val 4 ((HAD.out _ _ _).2 ⟨fun _ => rfl, fun e => by omega, fun e => by omega, fun e => by omega, fun e => by omega, fun e => by omega⟩)) (fun j hj hf h => hF_up (HAU.out _ _ (Below.refl _ _)) 4 _ j hj h)
        · intro u w21 au hsl hel hu hF0 hp' K hK
          obtain ⟨a3, k3, h3, p3⟩ := ((HAD.out _ _ _).1 (PreF.get hp' 3 (by kernel_rfl))).2.2.2.1 (by omega)
          have t117 : au.tmps[117]?.getD undef = u 3 := hsl.out 3 117 (by kernel_rfl)
          rw [h3] at t117
          have h4 := ((HAD.out _ _ _).1 (PreF.get hp' 4 (by kernel_rfl))).1 (by omega)
          have t118 : au.tmps[118]?.getD undef = u 4 := hsl.out 4 118 (by kernel_rfl)
          rw [h4] at t118
          have cc := sameImage_any W H a3 x k k3 c f HKS.out.1 w21 p3 (HPaq.out.below hF0)
          refine step_plain rfl ?_
          go_simp
          refine cc.mono ?_
          rintro e w22 ⟨rfl, hb⟩
          exact hK.out (.bool true) w22 (bnext hF0 (Nat.le_refl _) hb) (hF_val 5 ((HAD.out _ _ _).2 ⟨fun e => by omega, fun e => by omega, fun e => by omega, fun e => by omega, fun e => by omega, fun _ => rfl⟩)) (fun j hj hf h => hF_up (HAU.out _ _ hb) 5 _ j hj h)
        · intro u w21 au hsl hel hu hF0 hp' K hK
          have h5 := ((HAD.out _ _ _).1 (PreF.get hp' 5 (by kernel_rfl))).2.2.2.2.2 (by omega)
          have t119 : au.tmps[119]?.getD undef = u 5 := hsl.out 5 119 (by kernel_rfl)
          rw [h5] at t119
          refine step_plain rfl ?_
          go_simp
          exact hK.out (.bool true) _ (hF0) (hF_val 6 ((HAD.out _ _ _).2 ⟨fun e => by omega, fun e => by omega, fun e => by omega, fun e => by omega, fun e => by omega, fun _ => rfl⟩)) (fun j hj hf h => hF_up (HAU.out _ _ (Below.refl _ _)) 6 _ j hj h)
        · intro u w21 au hsl hel hu hF0 hp' K hK
          have h6 := ((HAD.out _ _ _).1 (PreF.get hp' 6 (by kernel_rfl))).2.2.2.2.2 (by omega)
          have t120 : au.tmps[120]?.getD undef = .bool true := (hsl.out 6 120 (by kernel_rfl)).trans h6
          have t8 : au.tmps[8]?.getD undef = .pointer (some ⟨R8, 0, none⟩) := (hel.out 8 (by kernel_rfl)).trans (by kernel_rfl)
          obtain ⟨x0, x1, x2⟩ := HBb.out w21 hF0
          refine step_guardV rfl rfl rfl t120 ?_
          go_simp
          exact hK.out (im W H (some ⟨b8, 0, none⟩) k c8) _ (hF0) (hF_val 7 ((HAD.out _ _ _).2 ⟨fun e => by omega, fun _ => rfl, fun e => by omega, fun e => by omega, fun e => by omega, fun e => by omega⟩)) (fun j hj hf h => hF_up (HAU.out _ _ (Below.refl _ _)) 7 _ j hj h)
        · intro u w21 au hsl hel hu hF0 hp' K hK
          have h6 := ((HAD.out _ _ _).1 (PreF.get hp' 6 (by kernel_rfl))).2.2.2.2.2 (by omega)
          have t120 : au.tmps[120]?.getD undef = .bool true := (hsl.out 6 120 (by kernel_rfl)).trans h6
          have h7 := ((HAD.out _ _ _).1 (PreF.get hp' 7 (by kernel_rfl))).2.1 (by omega)
          have t121 : au.tmps[121]?.getD undef = u 7 := hsl.out 7 121 (by kernel_rfl)
          rw [h7] at t121
          have cc := copyImage_any W H (some ⟨b8, 0, none⟩) k c8 h HKS.out.1 HKS.out.2.1 w21 (HPhq.out.below hF0)
          refine step_guardV rfl rfl rfl t120 ?_
          go_simp
          refine cc.mono ?_
          rintro e w22 ⟨bb, kk, rfl, hr, -, hb⟩
          exact hK.out _ w22 (bnext hF0 (Nat.le_refl _) hb) (hF_val 8 ((HAD.out _ _ _).2 ⟨fun e => by omega, fun e => by omega, fun e => by omega, fun e => by omega, fun _ => ⟨_, _, rfl, hr.px⟩, fun e => by omega⟩)) (fun j hj hf h => hF_up (HAU.out _ _ hb) 8 _ j hj h)
        · intro u w21 au hsl hel hu hF0 hp' K hK
          have h6 := ((HAD.out _ _ _).1 (PreF.get hp' 6 (by kernel_rfl))).2.2.2.2.2 (by omega)
          have t120 : au.tmps[120]?.getD undef = .bool true := (hsl.out 6 120 (by kernel_rfl)).trans h6
          have t12 : au.tmps[12]?.getD undef = .slice (some ⟨RD, 0, none⟩) 1 1 := (hel.out 12 (by kernel_rfl)).trans (by kernel_rfl)
          refine step_guardV rfl rfl rfl t120 ?_
          go_simp
          exact hK.out (.slice (some ⟨RD, 0, none⟩) 1 1) _ (hF0) (hF_val 9 ((HAD.out _ _ _).2 ⟨fun e => by omega, fun e => by omega, fun _ => rfl, fun e => by omega, fun e => by omega, fun e => by omega⟩)) (fun j hj hf h => hF_up (HAU.out _ _ (Below.refl _ _)) 9 _ j hj h)
        · intro u w21 au hsl hel hu hF0 hp' K hK
          have h6 := ((HAD.out _ _ _).1 (PreF.get hp' 6 (by kernel_rfl))).2.2.2.2.2 (by omega)
          have t120 : au.tmps[120]?.getD undef = .bool true := (hsl.out 6 120 (by kernel_rfl)).trans h6
          obtain ⟨a8, k8, h8, p8⟩ := ((HAD.out _ _ _).1 (PreF.get hp' 8 (by kernel_rfl))).2.2.2.2.1 (by omega)
          have t122 : au.tmps[122]?.getD undef = u 8 := hsl.out 8 122 (by kernel_rfl)
          rw [h8] at t122
          have h9 := ((HAD.out _ _ _).1 (PreF.get hp' 9 (by kernel_rfl))).2.2.1 (by omega)
          have t123 : au.tmps[123]?.getD undef = u 9 := hsl.out 9 123 (by kernel_rfl)
          rw [h9] at t123
          have cc := implErode_any W H a8 k k8 h HKS.out.1 (some ⟨RD, 0, none⟩) 1 1 (fun _ => 0) (by omega) (Nat.le_refl _) w21 p8 (HDot.out.below hF0)
          rw [HMD2.out] at cc
          simp only [pickI_t, pickN_t] at cc
          refine step_guardV rfl rfl rfl t120 ?_
          go_simp
          refine cc.mono ?_
          rintro e w22 ⟨bb, kk, b22, rfl, ho, -, hb⟩
          have hpx := ho.px.congr' fun q hq => ero_dot HNWk.out.1.1 HNWk.out.2.1 HBH.out hq
          exact hK.out _ w22 (bnext hF0 (Nat.le_refl _) hb) (hF_val 10 ((HAD.out _ _ _).2 ⟨fun e => by omega, fun e => by omega, fun e => by omega, fun e => by omega, fun _ => ⟨_, _, rfl, hpx⟩, fun e => by omega⟩)) (fun j hj hf h => hF_up (HAU.out _ _ hb) 10 _ j hj h)
        · intro u w21 au hsl hel hu hF0 hp' K hK
          have h6 := ((HAD.out _ _ _).1 (PreF.get hp' 6 (by kernel_rfl))).2.2.2.2.2 (by omega)
          have t120 : au.tmps[120]?.getD undef = .bool true := (hsl.out 6 120 (by kernel_rfl)).trans h6
          have t8 : au.tmps[8]?.getD undef = .pointer (some ⟨R8, 0, none⟩) := (hel.out 8 (by kernel_rfl)).trans (by kernel_rfl)
          obtain ⟨x0, x1, x2⟩ := HBb.out w21 hF0
          refine step_guardV rfl rfl rfl t120 ?_
          go_simp
          exact hK.out (im W H (some ⟨b8, 0, none⟩) k c8) _ (hF0) (hF_val 11 ((HAD.out _ _ _).2 ⟨fun e => by omega, fun _ => rfl, fun e => by omega, fun e => by omega, fun e => by omega, fun e => by omega⟩)) (fun j hj hf h => hF_up (HAU.out _ _ (Below.refl _ _)) 11 _ j hj h)
        · intro u w21 au hsl hel hu hF0 hp' K hK
          have h6 := ((HAD.out _ _ _).1 (PreF.get hp' 6 (by kernel_rfl))).2.2.2.2.2 (by omega)
          have t120 : au.tmps[120]?.getD undef = .bool true := (hsl.out 6 120 (by kernel_rfl)).trans h6
          obtain ⟨a10, k10, h10, p10⟩ := ((HAD.out _ _ _).1 (PreF.get hp' 10 (by kernel_rfl))).2.2.2.2.1 (by omega)
          have t124 : au.tmps[124]?.getD undef = u 10 := hsl.out 10 124 (by kernel_rfl)
          rw [h10] at t124
          have h11 := ((HAD.out _ _ _).1 (PreF.get hp' 11 (by kernel_rfl))).2.1 (by omega)
          have t125 : au.tmps[125]?.getD undef = u 11 := hsl.out 11 125 (by kernel_rfl)
          rw [h11] at t125
          have cc := sameImage_any W H a10 (some ⟨b8, 0, none⟩) k k10 c8 h HKS.out.1 w21 p10 (HPhq.out.below hF0)
          refine step_guardV rfl rfl rfl t120 ?_
          go_simp
          refine cc.mono ?_
          rintro e w22 ⟨rfl, hb⟩
          exact hK.out (.bool true) w22 (bnext hF0 (Nat.le_refl _) hb) (hF_val 12 ((HAD.out _ _ _).2 ⟨fun e => by omega, fun e => by omega, fun e => by omega, fun e => by omega, fun e => by omega, fun _ => rfl⟩)) (fun j hj hf h => hF_up (HAU.out _ _ hb) 12 _ j hj h)
        · intro u w21 au hsl hel hu hF0 hp' K hK
          have h6 := ((HAD.out _ _ _).1 (PreF.get hp' 6 (by kernel_rfl))).2.2.2.2.2 (by omega)
          have t120 : au.tmps[120]?.getD undef = u 6 := hsl.out 6 120 (by kernel_rfl)
          rw [h6] at t120
          have h12 := ((HAD.out _ _ _).1 (PreF.get hp' 12 (by kernel_rfl))).2.2.2.2.2 (by omega)
          have t126 : au.tmps[126]?.getD undef = u 12 := hsl.out 12 126 (by kernel_rfl)
          rw [h12] at t126
          refine step_plain rfl ?_
          go_simp
          exact hK.out (.bool true) _ (hF0) (hF_val 13 ((HAD.out _ _ _).2 ⟨fun e => by omega, fun e => by omega, fun e => by omega, fun e => by omega, fun e => by omega, fun _ => rfl⟩)) (fun j hj hf h => hF_up (HAU.out _ _ (Below.refl _ _)) 13 _ j hj h)
        · intro u w21 au hsl hel hu hF0 hp' K hK
          have h13 := ((HAD.out _ _ _).1 (PreF.get hp' 13 (by kernel_rfl))).2.2.2.2.2 (by omega)
          have t127 : au.tmps[127]?.getD undef = u 13 := hsl.out 13 127 (by kernel_rfl)
          rw [h13] at t127
          refine step_plain rfl ?_
          go_simp
          exact hK.out (.bool true) _ (hF0) (hF_val 14 ((HAD.out _ _ _).2 ⟨fun e => by omega, fun e => by omega, fun e => by omega, fun e => by omega, fun e => by omega, fun _ => rfl⟩)) (fun j hj hf h => hF_up (HAU.out _ _ (Below.refl _ _)) 14 _ j hj h)
      · intro u w30 hF0 hall
        have h14 : u 14 = .bool true := ((HAD.out _ _ _).1 (hall 14 (by decide))).2.2.2.2.2 (by omega)
        have HF := hide (bnext HWB.out (Nat.le_refl _) (HSq.out.next hF0).below)
        clear hall hF0 HSq HPaq HPhq HDot HBs HBb HAU HAD
        simp only [rgPut, Act.put]
        rw [h14]
        go_simp
        go_wp2_with fail
        go_ret
        exact ⟨rfl, HF.out⟩

end Go.Proofs.Ytchbaegmkaibcaa

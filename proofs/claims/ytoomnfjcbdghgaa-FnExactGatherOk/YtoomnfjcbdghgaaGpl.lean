/- The program's GatherOk. -/
import Derived.Test.YtoomnfjcbdghgaaGpk
import Derived.Test.YtoomnfjcbdghgaaCct
namespace Go.Proofs.Ytoomnfjcbdghgaa
open Go.RowKit

theorem flD (L : List Int) : fl (fun k => L.getD k 0) L.length = L := by
  apply List.ext_getElem
  · rw [fl_len]
  · intro i h1 h2
    have := fl_at (fun k => L.getD k 0) L.length i h2
    rw [List.getD_eq_getElem?_getD, List.getElem?_eq_getElem h1] at this
    simp only [Option.getD_some] at this
    rw [this, List.getD_eq_getElem?_getD, List.getElem?_eq_getElem h2]
    rfl
theorem alW_iff' (f : Nat → Int) (lo hi : Int) : ∀ n, alW f lo hi n = true ↔ ∀ i, i < n → inB (f i) lo hi = true
  | 0 => by simp [alW]
  | n + 1 => by
    simp only [alW, Bool.and_eq_true]
    rw [alW_iff' f lo hi n]
    constructor
    · rintro ⟨h1, h2⟩ i hi
      by_cases e : i = n
      · subst e; exact h2
      · exact h1 i (by omega)
    · intro h; exact ⟨fun i hi => h i (by omega), h n (by omega)⟩
theorem catD (f1 f2 : Nat → Int) (n1 n2 k : Nat) (hk : k < n1 + n2) : (fl f1 n1 ++ fl f2 n2).getD k 0 = if k < n1 then f1 k else f2 (k - n1) := by
  rw [List.getD_eq_getElem?_getD]
  by_cases h : k < n1
  · rw [if_pos h, List.getElem?_append_left (by rw [fl_len]; exact h)]
    have := fl_at f1 n1 k h
    rwa [List.getD_eq_getElem?_getD] at this
  · rw [if_neg h, List.getElem?_append_right (by rw [fl_len]; omega), fl_len]
    have := fl_at f2 n2 (k - n1) (by omega)
    rwa [List.getD_eq_getElem?_getD] at this
theorem alW_cat (f1 f2 : Nat → Int) (lo hi : Int) (n1 n2 : Nat) : alW (fun k => (fl f1 n1 ++ fl f2 n2).getD k 0) lo hi (n1 + n2) = (alW f1 lo hi n1 && alW f2 lo hi n2) := by
  rw [Bool.eq_iff_iff, Bool.and_eq_true, alW_iff', alW_iff', alW_iff']
  constructor
  · intro h
    refine ⟨fun i hi => ?_, fun i hi => ?_⟩
    · have := h i (by omega); rwa [catD f1 f2 n1 n2 i (by omega), if_pos hi] at this
    · have := h (n1 + i) (by omega); rwa [catD f1 f2 n1 n2 (n1 + i) (by omega), if_neg (by omega), show n1 + i - n1 = i by omega] at this
  · rintro ⟨h1, h2⟩ i hi
    rw [catD f1 f2 n1 n2 i hi]
    by_cases e : i < n1
    · rw [if_pos e]; exact h1 i e
    · rw [if_neg e]; exact h2 _ (by omega)
theorem add0 (a : Addr) : a.add 0 = a := by unfold Addr.add; simp
set_option maxRecDepth 100000 in
theorem cutPh (a : Option Addr) (m cap p : Nat) (hp : p ≤ cap) (w : World) : (Instr.slice 32 (.slice a m cap) none (some (.int .i64 (p : Int))) none).run Try.prog w = .ok (.slice a p cap) w := by
  have hsz : (Go.sizeOf 36).run Try.prog w = .ok 4 w := by kernel_rfl
  have hb := fun code => run_sliceBound (P := Try.prog) w .i64 (p : Int) cap code (by omega) (by omega)
  simp only [Instr.slice, Instr.sliceBounds, Sem.run_bind, run_underlying Try.underlying32, Result.andThen, Sem.run_pure, hb, hsz, Int.toNat_natCast]
  have e : a.map (fun x => x.add 0) = a := by cases a <;> simp [add0]
  simp only [Nat.sub_zero, Nat.zero_mul, e]
  split <;> rfl
def cutP (a : Option Addr) (cap p : Nat) : Option Addr := if cap = p then a else a.map (fun x => x.add (p * 4))
set_option maxRecDepth 100000 in
theorem cutPl (a : Option Addr) (m cap p : Nat) (hp : p ≤ m) (w : World) : (Instr.slice 32 (.slice a m cap) (some (.int .i64 (p : Int))) none none).run Try.prog w = .ok (.slice (cutP a cap p) (m - p) (cap - p)) w := by
  have hsz : (Go.sizeOf 36).run Try.prog w = .ok 4 w := by kernel_rfl
  have hb := fun code => run_sliceBound (P := Try.prog) w .i64 (p : Int) m code (by omega) (by omega)
  simp only [Instr.slice, Instr.sliceBounds, Sem.run_bind, run_underlying Try.underlying32, Result.andThen, Sem.run_pure, hb, hsz, Int.toNat_natCast]
  rfl
theorem FPart_shift (E : Nat → SPart) (p q : Nat) : FPart (fun k => E (p + k)) q = FPart E (p * 4 + q) := by
  unfold FPart
  rw [show (p * 4 + q) % 4 = q % 4 by omega, show (p * 4 + q) / 4 = p + q / 4 by omega]
theorem PxG.cutP {a : Option Addr} {m cap : Nat} {E : Nat → SPart} {w : World} (h : PxG a (m * 4) (FPart E) w) (hc : m ≤ cap) (p : Nat) (hp : p ≤ m) : PxG (cutP a cap p) ((m - p) * 4) (FPart (fun k => E (p + k))) w := by
  by_cases hq : m - p = 0
  · exact .inl (by omega)
  · rcases h with h | ⟨b, off, ha, hz⟩
    · omega
    · refine .inr ⟨b, off + p * 4, ?_, fun k hk => ?_⟩
      · unfold Proofs.Ytoomnfjcbdghgaa.cutP
        rw [if_neg (by omega), ha]
        simp [Addr.add]
      · rw [FPart_shift, Nat.add_assoc]
        exact hz _ (by omega)
theorem PxG.le {a : Option Addr} {m k : Nat} {F : Nat → Value} {w : World} (h : PxG a m F w) (hk : k ≤ m) : PxG a k F w := by
  rcases h with h | ⟨b, off, ha, hz⟩
  · exact .inl (by omega)
  · exact .inr ⟨b, off, ha, fun j hj => hz j (by omega)⟩
theorem byS_shift (E : Nat → SPart) (p : Nat) : ∀ n, byS E (p + n) = byS E p + byS (fun k => E (p + k)) n
  | 0 => rfl
  | n + 1 => by
    show byS E (p + n) + (E (p + n)).f3.size = _
    rw [byS_shift E p n]
    simp only [byS]; omega
/-- a Gather as a value -/
abbrev vGa (a1 : Option Addr) (n1 c1 : Nat) (a2 : Option Addr) (n2 c2 : Nat) (a3 : Option Addr) (m c3 : Nat) : Value := .agg #[.slice a1 n1 c1, .slice a2 n2 c2, .slice a3 m c3]

set_option maxRecDepth 100000 in
set_option maxHeartbeats 4000000 in
theorem implGatherOk_any (b1 o1 n1 c1 : Nat) (f1 : Nat → Int) (b2 o2 n2 c2 : Nat) (f2 : Nat → Int) (a3 : Option Addr) (m c3 : Nat) (E : Nat → SPart) (hn1 : n1 ≤ 1048576) (hn2 : n2 ≤ 1048576) (hm : m ≤ 1048576) (hmc : m ≤ c3) (hS : byS E m ≤ 1048576) (w : World)
    (h1 : ∀ k, k < n1 → w.cell? ⟨b1, o1 + k, none⟩ = some (.int .i64 (f1 k))) (h2 : ∀ k, k < n2 → w.cell? ⟨b2, o2 + k, none⟩ = some (.int .i64 (f2 k))) (h3 : PxG a3 (m * 4) (FPart E) w) :
    Calls Try.prog 21 #[vGa (some ⟨b1, o1, none⟩) n1 c1 (some ⟨b2, o2, none⟩) n2 c2 a3 m c3] w fun e w' => e = .returned (.bool (gaB n1 f1 n2 f2 m E)) ∧ Below w.heap.size w w' := by
  have HB0 : Hid (Below w.heap.size w (w.alloc (.cells #[.slice (some ⟨b1, o1, none⟩) n1 c1, .slice (some ⟨b2, o2, none⟩) n2 c2, .slice a3 m c3] 34))) := bnew _ _
  have z0 : (w.alloc (.cells #[.slice (some ⟨b1, o1, none⟩) n1 c1, .slice (some ⟨b2, o2, none⟩) n2 c2, .slice a3 m c3] 34)).cell? ⟨w.heap.size, 0, none⟩ = some (.slice (some ⟨b1, o1, none⟩) n1 c1) := by simp [go_sem]
  have z1 : (w.alloc (.cells #[.slice (some ⟨b1, o1, none⟩) n1 c1, .slice (some ⟨b2, o2, none⟩) n2 c2, .slice a3 m c3] 34)).cell? ⟨w.heap.size, 1, none⟩ = some (.slice (some ⟨b2, o2, none⟩) n2 c2) := by simp [go_sem]
  have z2 : (w.alloc (.cells #[.slice (some ⟨b1, o1, none⟩) n1 c1, .slice (some ⟨b2, o2, none⟩) n2 c2, .slice a3 m c3] 34)).cell? ⟨w.heap.size, 2, none⟩ = some (.slice a3 m c3) := by simp [go_sem]
  have HZ0 := hide z0
  have HZ1 := hide z1
  have HZ2 := hide z2
  have H1 : Hid (∀ w', Below w.heap.size w w' → ∀ k, k < n1 → w'.cell? ⟨b1, o1 + k, none⟩ = some (.int .i64 (f1 k))) := fun w' hb k hk => cell_kept' hb (h1 k hk)
  have H2 : Hid (∀ w', Below w.heap.size w w' → ∀ k, k < n2 → w'.cell? ⟨b2, o2 + k, none⟩ = some (.int .i64 (f2 k))) := fun w' hb k hk => cell_kept' hb (h2 k hk)
  have H3 := hide h3
  have HV : Hid (gaB n1 f1 n2 f2 m E = (decide (n1 ≤ 16) && decide (n2 ≤ 4096) && (alW f1 0 1000000 n1 && alW f2 0 1000000 n2) && unlB (fl f1 n1 ++ fl f2 n2) && sgW f1 E m 0 n1 0)) := rfl
  clear h1 h2 h3
  generalize gaB n1 f1 n2 f2 m E = V at *
  generalize hp : w.heap.size = p at *
  generalize hwa : w.alloc (.cells #[.slice (some ⟨b1, o1, none⟩) n1 c1, .slice (some ⟨b2, o2, none⟩) n2 c2, .slice a3 m c3] 34) = wa at *
  by_cases hq1 : (16 : Int) < n1
  · have HF : Hid (V = false) := by show _ = _; rw [HV.out, decide_eq_false (show ¬ n1 ≤ 16 by omega)]; simp
    clear HV H1 H2 H3 HZ0 HZ1 HZ2
    go_enter Try.func21, Try.ntmps21
    go_wp2_with fail
    go_ret
    exact ⟨by rw [HF.out]; rfl, HB0.out⟩
  by_cases hq2 : (4096 : Int) < n2
  · have HF : Hid (V = false) := by show _ = _; rw [HV.out, decide_eq_false (show ¬ n2 ≤ 4096 by omega)]; simp
    clear HV H1 H2 H3 HZ0 HZ1 HZ2
    go_enter Try.func21, Try.ntmps21
    go_wp2_with fail
    go_ret
    exact ⟨by rw [HF.out]; rfl, HB0.out⟩
  rw [decide_eq_true (show n1 ≤ 16 by omega), decide_eq_true (show n2 ≤ 4096 by omega), ← alW_cat, Bool.true_and, Bool.true_and] at HV
  have HBC : Hid (Below w.heap.size w (wa.alloc (.cells #[.slice (some ⟨b1, o1, none⟩) n1 c1, .slice (some ⟨b2, o2, none⟩) n2 c2] 25))) := by rw [hp]; exact HB0.out.alloc (hp ▸ HB0.out.size) _
  have HBC' : Hid (Below wa.heap.size wa (wa.alloc (.cells #[.slice (some ⟨b1, o1, none⟩) n1 c1, .slice (some ⟨b2, o2, none⟩) n2 c2] 25))) := bnew _ _
  have cC := concat_any wa.heap.size b1 o1 n1 c1 f1 b2 o2 n2 c2 f2 hn1 hn2 (wa.alloc (.cells #[.slice (some ⟨b1, o1, none⟩) n1 c1, .slice (some ⟨b2, o2, none⟩) n2 c2] 25)) (by simp [go_sem]) (by simp [go_sem]) (H1.out _ (hp ▸ HBC.out)) (H2.out _ (hp ▸ HBC.out))
  have hLL : (fl f1 n1 ++ fl f2 n2).length = n1 + n2 := by rw [List.length_append, fl_len, fl_len]
  have HLL := hide hLL
  unfold OwR at cC
  clear hLL
  generalize hL : fl f1 n1 ++ fl f2 n2 = L at *
  clear hL
  go_enter Try.func21, Try.ntmps21
  go_wp2_with fail
  clear hwa
  refine cC.mono ?_
  rintro e w1 ⟨v1, rfl, ho1, hb1⟩
  rw [HLL.out] at ho1
  obtain ⟨a4, c4, b4, rfl, ow4, -⟩ := ow_fl (f := fun k => L.getD k 0) (n := n1 + n2) (by rw [← HLL.out, flD, HLL.out]; exact ho1)
  have HB1 : Hid (Below p w w1) := by rw [← hp]; exact bnext HBC.out (Nat.le_refl _) hb1
  have HB1' : Hid (Below wa.heap.size wa w1) := bnext HBC'.out (Nat.le_refl _) hb1
  have c4' := allWithin_any 0 1000000 a4 (n1 + n2) c4 (fun k => L.getD k 0) (by omega) w1 ow4.px
  have c5' := areUnlike_any a4 (n1 + n2) c4 (fun k => L.getD k 0) (by omega) w1 ow4.px
  rw [show fl (fun k => L.getD k 0) (n1 + n2) = L by rw [← HLL.out, flD]] at c5'
  clear cC ho1 hb1 ow4 HBC HBC' HLL z0 z1 z2
  generalize alW (fun k => L.getD k 0) 0 1000000 (n1 + n2) = V3 at *
  generalize unlB L = V4 at *
  cases V3 with
  | false =>
    clear HZ0 HZ1 HZ2 H1 H2 H3 c5' HB1'
    go_wp2_with fail
    refine c4'.mono ?_
    rintro e w2 ⟨rfl, rfl⟩
    clear c4'
    go_wp2_with fail
    go_ret
    exact ⟨by rw [HV.out]; rfl, HB1.out⟩
  | true =>
  cases V4 with
  | false =>
    clear HZ0 HZ1 HZ2 H1 H2 H3 HB1'
    go_wp2_with fail
    refine c4'.mono ?_
    rintro e w2 ⟨rfl, rfl⟩
    clear c4'
    go_wp2_with fail
    refine c5'.mono ?_
    rintro e w3 ⟨rfl, hb3⟩
    have HB3 := hide (bnext (hp ▸ HB1.out) (Nat.le_refl _) hb3)
    clear c5' hb3
    go_wp2_with fail
    go_ret
    exact ⟨by rw [HV.out]; rfl, by rw [← hp]; exact HB3.out⟩
  | true =>
  simp only [Bool.true_and] at HV
  go_wp2_with fail
  refine c4'.mono ?_
  rintro e w2 ⟨rfl, rfl⟩
  clear c4'
  go_wp2_with fail
  refine c5'.mono ?_
  rintro e w3 ⟨rfl, hb3⟩
  have HB3 : Hid (Below w.heap.size w w3) := bnext (hp ▸ HB1.out) (Nat.le_refl _) hb3
  have HB3' : Hid (Below wa.heap.size wa w3) := bnext HB1'.out (Nat.le_refl _) hb3
  have y0 := cell_kept' HB3'.out HZ0.out
  have y2 := cell_kept' HB3'.out HZ2.out
  clear c5' hb3 HB1 HB1' HZ0 HZ1 HZ2
  go_wp2_with fail
  clear y0 y2
  go_loopw [4, 37] (fun r i wr => ∃ (k q pp : Nat) (ar : Option Addr) (cr : Nat), k + q = n1 ∧ pp ≤ m ∧ i = .int .i64 k ∧ r = .slice ar (m - pp) cr ∧ m - pp ≤ cr ∧ PxG ar ((m - pp) * 4) (FPart (fun j => E (pp + j))) w ∧ Hid (sgW f1 E m k q pp = V) ∧ Below w.heap.size w wr) (fun _ i _ => n1 - (intOf i).toNat)
  case atStart => exact ⟨0, n1, 0, a3, c3, by omega, by omega, rfl, by simp, by omega, by simpa using H3.out, hide HV.out.symm, HB3.out⟩
  case round =>
    obtain ⟨k, q, pp, ar, cr, hkq, hpp, rfl, rfl, hcr, hpx, HW, hb⟩ := hrel
    have HB := hide hb
    have HPX := hide hpx
    clear hpx HB3 HV
    cases q with
    | zero =>
      have hkl : ¬ (k : Int) < n1 := by omega
      have HF : Hid (V = decide (pp = m)) := HW.out.symm
      have he : (((m - pp : Nat) : Int) == 0) = decide (pp = m) := by rw [Bool.eq_iff_iff]; simp; omega
      clear HW HPX hb H1 H2 H3
      go_wp2_with fail
      go_ret
      exact ⟨by rw [HF.out, ← he]; rfl, by rw [← hp]; exact HB.out⟩
    | succ q =>
      have hkl : (k : Int) < n1 := by omega
      have hz := H1.out wr (hp ▸ hb) k (by omega)
      have cL := leadingOf_any ar (m - pp) cr (fun j => E (pp + j)) (f1 k) (by omega) wr (HPX.out.below hb)
      rw [cntP_shift, Nat.add_zero] at cL
      have hcl := cntP_le E (f1 k) (m - pp) pp
      have HST : Hid (sgW f1 E m k (q + 1) pp = (opB (fun j => E (pp + j)) (cntP E (f1 k) pp (m - pp)) && sgW f1 E m (k + 1) q (pp + cntP E (f1 k) pp (m - pp)))) := rfl
      generalize cntP E (f1 k) pp (m - pp) = C at *
      have hby : byS (fun j => E (pp + j)) C ≤ 1048576 := by
        have h1 := byS_shift E pp C
        have h2 := byS_le E (show pp + C ≤ m by omega)
        omega
      have cO := isOpen_any ar C cr (fun j => E (pp + j)) (by omega) hby wr ((HPX.out.le (show C * 4 ≤ (m - pp) * 4 by omega)).below hb)
      have hs1 := fun w' => cutPh ar (m - pp) cr C (by omega) w'
      have hs2 := fun w' => cutPl ar (m - pp) cr C hcl w'
      have HPX2 := hide (HPX.out.cutP hcr C hcl)
      cases hO : opB (fun j => E (pp + j)) C with
      | false =>
        rw [hO] at cO HST
        have HF : Hid (V = false) := by show _ = _; rw [← HW.out, HST.out]; rfl
        clear HW HST HPX HPX2 hO hs2 H1 H2 H3 hb
        generalize f1 k = id at *
        go_wp2_with fail
        refine cL.mono ?_
        rintro e w4 ⟨rfl, rfl⟩
        clear cL
        go_wp2_with fail
        refine cO.mono ?_
        rintro e w5 ⟨rfl, hb5⟩
        have HB5 := hide (bnext HB.out (Nat.le_refl _) hb5)
        clear cO hb5
        go_wp2_with fail
        go_ret
        exact ⟨by rw [HF.out]; rfl, by rw [← hp]; exact HB5.out⟩
      | true =>
        rw [hO] at cO HST
        have HW2 : Hid (sgW f1 E m (k + 1) q (pp + C) = V) := by show _ = _; rw [← HW.out, HST.out]; rfl
        have HPX3 : Hid (PxG (cutP ar cr C) ((m - (pp + C)) * 4) (FPart (fun j => E (pp + C + j))) w) := by
          have := HPX2.out
          rw [show m - pp - C = m - (pp + C) by omega] at this
          have e : (fun j => E (pp + (C + j))) = (fun j => E (pp + C + j)) := by funext j; rw [Nat.add_assoc]
          rw [← e]
          exact this
        clear HW HST HPX HPX2 hO hb
        generalize f1 k = id at *
        go_wp2_with fail
        refine cL.mono ?_
        rintro e w4 ⟨rfl, rfl⟩
        clear cL
        go_wp2_with fail
        refine cO.mono ?_
        rintro e w5 ⟨rfl, hb5⟩
        have HB5 := hide (bnext HB.out (Nat.le_refl _) hb5)
        clear cO hb5
        go_wp2_with fail
        go_roundw
        case rel => exact ⟨k + 1, q, pp + C, cutP ar cr C, cr - C, by omega, by omega, by go_num, by rw [show m - (pp + C) = m - pp - C by omega], by omega, HPX3.out, HW2, HB5.out⟩
        case measure => simp [intOf]; omega

end Go.Proofs.Ytoomnfjcbdghgaa

/- Refutes: the program. -/
import Derived.Test.YtadbniademamhaaRfn
namespace Go.Proofs.Ytadbniademamhaa
open Go.RowKit

theorem St.im2 {w0 : World} {L : List BoxT} {O : List OwnT} {w : World} (h : St w0 L O w) (i : Nat) {b : Nat} {v0 v1 : Value} (hm : L[i]? = some (b, [v0, v1])) :
    w.cell? ⟨b, 0, none⟩ = some v0 ∧ w.cell? ⟨b, 1, none⟩ = some v1 := ⟨h.cell i hm 0 rfl, h.cell i hm 1 rfl⟩

set_option maxRecDepth 100000 in
set_option maxHeartbeats 16000000 in
theorem weightedSum_any (a : Option Addr) (m cap : Nat) (ad : Nat → Option Addr) (ln cp : Nat → Nat) (F : Nat → Nat → Int) (Bv : Nat → Int) (L : Nat) (hm1 : 1 ≤ m) (hm2 : m ≤ 64) (hL1 : 1 ≤ L) (hL2 : L ≤ 64) (hB : ∀ i, i < m → ln i = L ∧ (∀ k, k < L → -1000 ≤ F i k ∧ F i k ≤ 1000) ∧ -1000 ≤ Bv i ∧ Bv i ≤ 1000)
    (a' : Option Addr) (cap' : Nat) (wt : Nat → Int) (hw : ∀ i, i < m → 0 ≤ wt i ∧ wt i ≤ 1000) (w : World) (h : PxB a m ad ln cp F Bv w) (h' : Px a' m wt w) :
    Calls Try.prog 17 #[.slice a m cap, .slice a' m cap'] w fun e w' => ∃ G, e = .returned (vBd (some ⟨G, 0, none⟩) L L (dotS wt Bv m)) ∧ Row G L (fun q => wsA F wt L q m) w' ∧ Below w.heap.size w w' := by
  have HP := hide h
  have HP' := hide h'
  have HBd := hide hB
  have HWt := hide hw
  have hmk := fun w' => make_px L (by omega) w'
  obtain ⟨b, off, rfl, -, -⟩ := h.at (show 0 < m by omega)
  have hm8 : 0 < m := by omega
  have hm9 : (0 : Int) < (m : Int) := by omega
  have y0 := h.at0 rfl hm8
  rw [(hB 0 hm8).1] at y0
  have HWF : Hid (∀ i q, i < m → q < L → -1000000 ≤ wt i * F i q ∧ wt i * F i q ≤ 1000000) := fun i q hi hq => wprod_bd (hw i hi).1 (hw i hi).2 ((hB i hi).2.1 q hq).1 ((hB i hi).2.1 q hq).2
  have HWB : Hid (∀ i, i < m → -1000000 ≤ wt i * Bv i ∧ wt i * Bv i ≤ 1000000) := fun i hi => wprod_bd (hw i hi).1 (hw i hi).2 (hB i hi).2.2.1 (hB i hi).2.2.2
  obtain ⟨w1, hw1⟩ : ∃ w1, w1 = w.alloc (.cells #[.slice none 0 0, .int .i64 0] 30) := ⟨_, rfl⟩
  have hS0 : St w [(w.heap.size, [.slice none 0 0, .int .i64 0])] [] w1 := by rw [hw1]; exact (St.start w).box [_, _] _
  have y1 : w1.cell? ⟨b, off, none⟩ = some (.slice (ad 0) L (cp 0)) := cell_kept hS0.below y0
  have hw1' := hw1.symm
  have HS2 := hide ((hS0.own (bnew w1 (.cells (madeCells #[.int .i64 0] L) 2)) (row_new L w1).v (.inr (Nat.le_refl _))).box' [.slice (some ⟨w1.heap.size, 0, none⟩) L L, .int .i64 0] 30 (b := w1.heap.size + 1) (by simp))
  clear h h' hB hw y0 hw1 hS0
  go_enter Try.func17, Try.ntmps17
  go_wp2_with fail
  clear hmk y1 hw1'
  generalize w1.heap.size = B at *
  go_loopw [6, 7, 8, 9, 19] (fun _ _ _ _ i wr => ∃ k : Nat, k ≤ m ∧ i = .int .i64 k ∧ St w [(B + 1, [.slice (some ⟨B, 0, none⟩) L L, .int .i64 (dotS wt Bv k)]), (w.heap.size, [.slice none 0 0, .int .i64 0])] [(some ⟨B, 0, none⟩, B, L, fun q => .int .i64 (wsA F wt L q k))] wr) (fun _ _ _ _ i _ => m - (intOf i).toNat)
  case atStart =>
    refine ⟨0, by omega, rfl, ?_⟩
    rw [show (fun q => Value.int .i64 (wsA F wt L q 0)) = fun _ => Value.int .i64 0 from funext fun q => by rw [wsA_0]]
    exact HS2.out
  case round =>
    obtain ⟨k, hk, rfl, hs⟩ := hrel
    obtain ⟨wo, rfl⟩ : ∃ wo, wo = wr := ⟨_, rfl⟩
    clear HS2
    by_cases hlt : k < m
    · obtain ⟨b', off', heq, z0, z1⟩ := (HP.out.below hs.below).at hlt
      cases heq
      have e0 := (HBd.out k hlt).1
      rw [e0] at z0
      have HPk : Hid (∀ w', Below w.heap.size w w' → Px (ad k) L (F k) w') := fun w' hb => by have := (HP.out.2 k hlt).below hb; rw [e0] at this; exact this
      have HWk := hide (fun w' (hb : Below w.heap.size w w') => (HP'.out.below hb).at hlt)
      have HS3 := hide (hs.box [.slice (ad k) L (cp k), .int .i64 (Bv k)] 30)
      have HS3' : Hid (St w [(wo.heap.size, [.slice (ad k) L (cp k), .int .i64 (Bv k)]), (B + 1, [.slice (some ⟨B, 0, none⟩) L L, .int .i64 (dotS wt Bv k)]), (w.heap.size, [.slice none 0 0, .int .i64 0])] [(some ⟨B, 0, none⟩, B, L, fun q => .int .i64 (wsM F wt L k 0 q))] (wo.alloc (.cells #[.slice (ad k) L (cp k), .int .i64 (Bv k)] 30))) := by
        rw [show (fun q => Value.int .i64 (wsM F wt L k 0 q)) = fun q => Value.int .i64 (wsA F wt L q k) from funext fun q => by rw [wsM_0]]
        exact HS3.out
      clear HS3 hs HP HP' HBd HWt
      go_wp2_with fail
      clear z0 z1
      generalize wo.alloc (.cells #[.slice (ad k) L (cp k), .int .i64 (Bv k)] 30) = wb at *
      generalize wo.heap.size = D at *
      go_loopw [8, 9, 27] (fun _ _ i wr => ∃ p : Nat, p ≤ L ∧ i = .int .i64 p ∧ St w [(D, [.slice (ad k) L (cp k), .int .i64 (Bv k)]), (B + 1, [.slice (some ⟨B, 0, none⟩) L L, .int .i64 (dotS wt Bv k)]), (w.heap.size, [.slice none 0 0, .int .i64 0])] [(some ⟨B, 0, none⟩, B, L, fun q => .int .i64 (wsM F wt L k p q))] wr) (fun _ _ i _ => L - (intOf i).toNat)
      case atStart => exact ⟨0, by omega, rfl, HS3'.out⟩
      case round =>
        obtain ⟨p, hp, rfl, hs⟩ := hrel
        clear HS3'
        by_cases hpl : p < L
        · obtain ⟨b1, o1, ha1, x1⟩ := (HPk.out _ hs.below).at hpl
          obtain ⟨b2, o2, ha2, x2⟩ := HWk.out _ hs.below
          subst ha2
          obtain ⟨i0, i1⟩ := hs.im2 1 rfl
          obtain ⟨d0, f0⟩ := hs.atO (k := p) hpl
          have hb1 := wsA_bd (F := F) (wt := wt) (L := L) (q := p) (k + 1) (fun i hi hq => HWF.out i p (by omega) hq)
          have hb2 := HWF.out k p hlt hpl
          have hh := wsM_here (F := F) (wt := wt) (k := k) hpl
          have HS4 := hide ((hs.drew.upd (k := p) hpl (wsA F wt L p (k + 1))))
          rw [show (fun q => Value.int .i64 (updN (wsM F wt L k p) p (wsA F wt L p (k + 1)) q)) = fun q => Value.int .i64 (wsM F wt L k (p + 1) q) from funext fun q => by rw [wsM_next]] at HS4
          obtain ⟨P, hP⟩ : ∃ P, wt k * F k p = P := ⟨_, rfl⟩
          rw [hP] at hb2 hh
          have w1 : IntKind.i64.wrap (wt k * F k p) = P := by rw [hP, IntKind.wrap_i64]; omega
          have w2 : IntKind.i64.wrap (wsM F wt L k p p + P) = wsA F wt L p (k + 1) := by rw [hh, IntKind.wrap_i64]; omega
          have SKa := hide (And.intro i0 x2)
          have SKb : Hid (_ ∧ _) := ⟨HS4.out.cell 1 rfl 0 rfl, ((HWk.out _ HS4.out.below).elim fun b3 h3 => h3.elim fun o3 h4 => by
            obtain ⟨e3, h5⟩ := h4
            cases e3
            exact h5)⟩
          rw [ha1] at *
          clear hs HPk HWk HWF HWB hb1 hb2 hh hP ha1
          generalize wsM F wt L k p p = X at *
          generalize wsA F wt L p (k + 1) = Y at *
          generalize F k p = A at *
          generalize wt k = C at *
          go_upto_region 8 with fail
          go_region_with (fail)
          all_goals
            clear SKa SKb i0 i1 x1 x2 d0 f0 w1 w2
            go_wp2_with fail
            exact ⟨⟨p + 1, by omega, rfl, HS4.out⟩, by simp [intOf]; omega⟩
        · obtain rfl : p = L := by omega
          obtain ⟨b2, o2, ha2, x2⟩ := HWk.out _ hs.below
          subst ha2
          obtain ⟨i0, i1⟩ := hs.im2 1 rfl
          obtain ⟨j0, j1⟩ := hs.im2 0 rfl
          have f1 := hs.free 1 rfl 1 rfl
          have hb1 := dotS_bd (f := wt) (x := Bv) (M := 1000000) (by omega) k (fun i hi => HWB.out i (by omega))
          have hb2 := HWB.out k hlt
          have HY : Hid (dotS wt Bv (k + 1) = dotS wt Bv k + wt k * Bv k) := rfl
          have hS5 := St.fill (L1 := [(D, [.slice (ad k) p (cp k), .int .i64 (Bv k)])]) hs.drew 1 (.int .i64 (dotS wt Bv (k + 1)))
          rw [show (fun q => Value.int .i64 (wsM F wt p k p q)) = fun q => Value.int .i64 (wsA F wt p q (k + 1)) from funext fun q => by rw [wsM_L]] at hS5
          have HS5 := hide hS5
          have HS6 := hide (hS5.sub (L' := [(B + 1, [.slice (some ⟨B, 0, none⟩) p p, .int .i64 (dotS wt Bv (k + 1))]), (w.heap.size, [.slice none 0 0, .int .i64 0])]) (O' := [(some ⟨B, 0, none⟩, B, p, fun q => .int .i64 (wsA F wt p q (k + 1)))]) (List.Sublist.cons _ (List.Sublist.refl _)) (List.Sublist.refl _))
          have SKa := hide (And.intro j1 x2)
          have SKb : Hid (_ ∧ _) := ⟨HS5.out.cell 0 rfl 1 rfl, ((HWk.out _ HS5.out.below).elim fun b3 h3 => h3.elim fun o3 h4 => by
            obtain ⟨e3, h5⟩ := h4
            cases e3
            exact h5)⟩
          rw [HY.out] at HS5 HS6 SKb
          obtain ⟨P, hP⟩ : ∃ P, wt k * Bv k = P := ⟨_, rfl⟩
          rw [hP] at hb2 HY HS5 HS6 SKb
          have w1 : IntKind.i64.wrap (wt k * Bv k) = P := by rw [hP, IntKind.wrap_i64]; omega
          have w2 : IntKind.i64.wrap (dotS wt Bv k + P) = dotS wt Bv k + P := by rw [IntKind.wrap_i64]; omega
          clear hs HPk HWk HWF HWB hb1 hb2 hP hS5 HS5
          generalize dotS wt Bv k = X at *
          generalize Bv k = A at *
          generalize wt k = C at *
          go_upto_region 10 with fail
          go_region_with (fail)
          all_goals
            clear SKa SKb i0 i1 x2 j0 j1 f1 w1 w2
            go_wp2_with fail
            exact ⟨⟨k + 1, by omega, rfl, by rw [HY.out]; exact HS6.out⟩, by simp [intOf]; omega⟩
    · obtain rfl : k = m := by omega
      obtain ⟨i0, i1⟩ := hs.im2 0 rfl
      obtain ⟨j0, j1⟩ := hs.im2 1 rfl
      have f0 := hs.free 1 rfl 0 rfl
      have f1 := hs.free 1 rfl 1 rfl
      have HE := hide (St.fill (L1 := [_]) (St.fill (L1 := [_]) hs 0 (.slice (some ⟨B, 0, none⟩) L L)) 1 (.int .i64 (dotS wt Bv k)))
      clear hs HP HP' HBd HWt HWF HWB
      go_wp2_with fail
      refine bodyPost_ret (v := vBd (some ⟨B, 0, none⟩) L L (dotS wt Bv k)) (by simp [results, Try.results17, go_sem, j0, j1]) rfl ⟨B, rfl, ?_, HE.out.below⟩
      rcases HE.out.nthO 0 rfl with h0 | ⟨-, h0⟩
      · omega
      · exact h0

end Go.Proofs.Ytadbniademamhaa

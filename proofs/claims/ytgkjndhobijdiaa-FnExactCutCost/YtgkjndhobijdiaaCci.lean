/- What a parting costs: the program. -/
import Derived.Test.YtgkjndhobijdiaaCcb
import Derived.BigRegion
namespace Go.Proofs.Ytgkjndhobijdiaa
open Go.RowKit

set_option maxRecDepth 100000 in
theorem cstVis_fn : ∀ ar w, Sem.run Try.prog (callFunc 99 ar) w = .ok (.enter 99 ar) w := fun _ _ => rfl

set_option maxRecDepth 100000 in
set_option maxHeartbeats 1000000 in
theorem cstVis_any (W H : Int) (a : Option Addr) (n cap : Nat) (f : Nat → Int) (i q v lk : Int) (k : Nat) (h0 : 0 ≤ q) (h1 : q < n) (c bp bs bl : Nat) (w : World) (hlk : 0 ≤ lk ∧ lk ≤ 4095) (hv : 0 ≤ v ∧ v ≤ 100000000)
    (hz : Bx c [.int .i64 v] w) (hs : Bx bs [.int .i64 (f k)] w) (hl : Bx bl [.int .i64 lk] w) (hb : Bx bp [.int .i64 W, .int .i64 H, .slice a n cap] w) (hx : Px a n f w) :
    Calls Try.prog 99 #[.int .i64 i, .int .i64 q, .pointer (some ⟨bp, 0, none⟩), .pointer (some ⟨bs, 0, none⟩), .pointer (some ⟨c, 0, none⟩), .pointer (some ⟨bl, 0, none⟩)] w fun e w' => e = .returned (.tuple #[]) ∧ KpS (· = c) w w' ∧ Bx c [.int .i64 (lnkS f lk k q v)] w' := by
  obtain ⟨b, off, rfl, hy⟩ := hx.at' h0 h1
  obtain ⟨z0, z1⟩ := hz 0 _ rfl
  have s0 := (hs 0 _ rfl).1
  have p2 := (hb 2 _ rfl).1
  have l0 := (hl 0 _ rfl).1
  unfold lnkS
  by_cases he : f q.toNat = f k
  · rw [if_pos he]
    have HZ := hide hz
    rw [← he] at s0
    clear hx hz hb hs hl he
    generalize f q.toNat = y at *
    have t : (y != y) = false := by simp
    go_enter Try.func99, Try.ntmps99
    go_wp2_with fail
    go_region
    go_wp2_with fail
    go_end0
    exact ⟨rfl, (KpS.refl _ _).drew, HZ.out⟩
  · rw [if_neg he]
    have HZ := hide (hz.set 0 (.int .i64 (v + lk)))
    have HK := hide (((KpS.refl (· = c) w).drew).setCell (a := ⟨c, 0, none⟩) rfl (.int .i64 (v + lk)))
    clear hx hz hb hs hl
    generalize f q.toNat = y at *
    generalize f k = yk at *
    have t : (y != yk) = true := by simp [he]
    have ew : IntKind.i64.wrap (v + lk) = v + lk := by rw [IntKind.wrap_i64]; omega
    go_enter Try.func99, Try.ntmps99
    go_wp2_with fail
    go_region
    go_wp2_with fail
    go_end0
    exact ⟨rfl, HK.out, HZ.out⟩

/-- one box is written by a visit, the rest stays -/
theorem St.kps {w0 : World} {L1 L2 : List BoxT} {w w' : World} {c : Nat} {vs vs' : List Value} (h : St w0 (L1 ++ (c, vs) :: L2) [] w) (hk : KpS (· = c) w w') (hb : Bx c vs' w') : St w0 (L1 ++ (c, vs') :: L2) [] w' := by
  have e : blocks (L1 ++ (c, vs') :: L2) [] = blocks (L1 ++ (c, vs) :: L2) [] := by unfold blocks; simp
  have pm : (blocks (L1 ++ (c, vs) :: L2) []).Perm (c :: blocks (L1 ++ L2) []) := by
    unfold blocks
    rw [List.map_append, List.map_cons, List.map_append, List.append_assoc, List.append_assoc, List.cons_append]
    exact List.perm_middle
  have nd := h.nd
  rw [pm.nodup_iff] at nd
  have hnot := (List.nodup_cons.1 nd).1
  have hc := h.lt c (pm.mem_iff.2 (List.mem_cons_self ..))
  have hne : ∀ x ∈ L1 ++ L2, x.1 ≠ c := fun x hx e2 => hnot (by rw [← e2]; exact mem_blocks_box hx)
  have hlt : ∀ x ∈ L1 ++ L2, x.1 < w.heap.size := fun x hx => by
    refine (h.lt x.1 (pm.mem_iff.2 (List.mem_cons_of_mem _ (mem_blocks_box hx)))).2
  refine ⟨h.below.trans (hk.below (fun b hb => by subst hb; exact hc.1) h.below.size), fun x hx => ?_, fun x hx => (by cases hx), fun b hb => ?_, by rw [e]; exact h.nd⟩
  · rcases List.mem_append.1 hx with hx | hx
    · have hm := List.mem_append.2 (Or.inl hx : x ∈ L1 ∨ x ∈ L2)
      exact hk.bx (hne x hm) (hlt x hm) (h.bx x (List.mem_append.2 (.inl hx)))
    · rcases List.mem_cons.1 hx with rfl | hx
      · exact hb
      · have hm := List.mem_append.2 (Or.inr hx : x ∈ L1 ∨ x ∈ L2)
        exact hk.bx (hne x hm) (hlt x hm) (h.bx x (List.mem_append.2 (.inr (List.mem_cons_of_mem _ hx))))
  · rw [e] at hb
    exact ⟨(h.lt b hb).1, Nat.lt_of_lt_of_le (h.lt b hb).2 hk.size⟩
theorem ownC_eq {f g h : Nat → Int} {k : Nat} (hf : f k = 0 ∨ f k = 1) : (1 - f k) * g k + f k * h k = ownC f g h k := by
  unfold ownC
  rcases hf with e | e
  · rw [e, if_pos rfl]; simp
  · rw [e, if_neg (by omega)]; simp
theorem own_bd {y x : Int} (hy : y = 0 ∨ y = 1) (hx : 0 ≤ x ∧ x ≤ 4095) : 0 ≤ y * x ∧ y * x ≤ 4095 := by
  rcases hy with rfl | rfl
  · simp
  · simp; omega

theorem cstRound_any (W H : Int) (a : Option Addr) (n cap : Nat) (f : Nat → Int) (hn : (n : Int) = W * H) (hn2 : n ≤ 4096) (hW : 1 ≤ W ∧ W ≤ 64) (hH : 1 ≤ H ∧ H ≤ 64) (lk : Int) (hlk : 0 ≤ lk ∧ lk ≤ 4095) (k : Nat) (hk : k < n) (Z : Int) (bZ : 0 ≤ Z ∧ Z ≤ 60000000) (bx bc bp ba bl : Nat) (w0 w : World)
    (hS : St w0 [(bx, [.int .i64 (f k)]), (bc, [.int .i64 Z]), (bp, [.int .i64 W, .int .i64 H, .slice a n cap]), (ba, [.int .i64 1, .int .i64 0, .int .i64 0, .int .i64 1]), (bl, [.int .i64 lk])] [] w) (hP : Px a n f w0) :
    Calls Try.prog 98 #[gv W H, .int .i64 k, .slice (some ⟨ba, 0, none⟩) 2 2, .func (.func 99) #[] #[.pointer (some ⟨bp, 0, none⟩), .pointer (some ⟨bx, 0, none⟩), .pointer (some ⟨bc, 0, none⟩), .pointer (some ⟨bl, 0, none⟩)]] w fun e w' => e = .returned (.tuple #[]) ∧ KpS (· = bc) w w' ∧ Bx bc [.int .i64 (lnkV W H f lk k Z 2)] w' := by
  have nd := hS.nd
  unfold blocks at nd
  simp at nd
  have hne : ba ≠ bc := fun e => nd.2.1.2.1 e.symm
  refine visitFold_any W H k (some ⟨ba, 0, none⟩) 2 2 ahdF (by omega) hW.1 hW.2 hH.1 hH.2 (by omega) (by omega) ahdF_bd _ cstVis_fn #[.pointer (some ⟨bp, 0, none⟩), .pointer (some ⟨bx, 0, none⟩), .pointer (some ⟨bc, 0, none⟩), .pointer (some ⟨bl, 0, none⟩)] (fun _ q v => lnkS f lk k q v) Z bc w (hS.ltB 1 rfl).2 (hS.bx (bc, [.int .i64 Z]) (by simp)) ?_ ?_ ?_
  · refine .inr ⟨ba, 0, rfl, fun j hj => ?_⟩
    rcases (show j = 0 ∨ j = 1 ∨ j = 2 ∨ j = 3 by omega) with rfl | rfl | rfl | rfl
    · exact hS.cell 3 rfl 0 rfl
    · exact hS.cell 3 rfl 1 rfl
    · exact hS.cell 3 rfl 2 rfl
    · exact hS.cell 3 rfl 3 rfl
  · intro b off _ e
    cases e
    exact hne
  · intro j wr hj hq hkps hbx
    obtain ⟨pl0, pl1⟩ := place_lt hq hn
    have h1 := St.kps (L1 := [(bx, [.int .i64 (f k)])]) hS hkps hbx
    have hvb := lnkV_bd W H f lk k Z j hlk
    unfold lnkV at hvb
    exact cstVis_any W H a n cap f j _ _ lk k pl0 pl1 bc bp bx bl wr hlk (by omega) hbx (h1.bx (bx, [.int .i64 (f k)]) (by simp)) (h1.bx (bl, [.int .i64 lk]) (by simp)) (h1.bx (bp, [.int .i64 W, .int .i64 H, .slice a n cap]) (by simp)) (hP.below h1.below)

set_option maxRecDepth 100000 in
set_option maxHeartbeats 4000000 in
theorem implCutCost_any (W H : Int) (a : Option Addr) (n cap : Nat) (f : Nat → Int) (hl : n ≤ 1048576) (W1 H1 : Int) (a1 : Option Addr) (n1 cap1 : Nat) (g : Nat → Int) (hl1 : n1 ≤ 1048576) (W2 H2 : Int) (a2 : Option Addr) (n2 cap2 : Nat) (h : Nat → Int) (hl2 : n2 ≤ 1048576) (lk : Int) (w : World) (p0 : Px a n f w) (p1 : Px a1 n1 g w) (p2 : Px a2 n2 h w) :
    Calls Try.prog 28 #[im W H a n cap, im W1 H1 a1 n1 cap1, im W2 H2 a2 n2 cap2, .int .i64 lk] w fun e w' => e = .returned (.int .i64 (cstV W H n f W1 H1 n1 g W2 H2 n2 h lk)) ∧ Below w.heap.size w w' := by
  have HS0 := hide (((((St.start w).box [.int .i64 W, .int .i64 H, .slice a n cap] 30).box' [.int .i64 W1, .int .i64 H1, .slice a1 n1 cap1] 30 (b := w.heap.size + 1) (by simp)).box' [.int .i64 W2, .int .i64 H2, .slice a2 n2 cap2] 30 (b := w.heap.size + 1 + 1) (by simp)).box' [.int .i64 lk] 2 (b := w.heap.size + 1 + 1 + 1) (by simp))
  have c0 := fun w' q => isMask_any W H a n cap f hl w' q
  have c1 := fun w' q1 q2 => areCosts_any W1 H1 a1 n1 cap1 g hl1 W2 H2 a2 n2 cap2 h hl2 lk w' q1 q2
  have c2 := fun w' => sameSize_any W H a n cap W1 H1 a1 n1 cap1 w'
  have HP0 := hide p0
  have HP1 := hide p1
  have HP2 := hide p2
  unfold cstV
  clear p0 p1 p2
  cases hq : cosB W H n f W1 H1 n1 g W2 H2 n2 h lk
  · rw [if_neg (by simp)]
    have HR : Hid (maskB W H n f = false ∨ (maskB W H n f = true ∧ cutB W1 H1 n1 g W2 H2 n2 h lk = false) ∨ (maskB W H n f = true ∧ cutB W1 H1 n1 g W2 H2 n2 h lk = true ∧ (decide (W = W1) && decide (H = H1)) = false)) := by
      show _ ∨ _
      unfold cosB at hq
      cases h1 : maskB W H n f
      · exact .inl rfl
      · cases h2 : cutB W1 H1 n1 g W2 H2 n2 h lk
        · exact .inr (.inl ⟨rfl, rfl⟩)
        · rw [h1, h2] at hq
          exact .inr (.inr ⟨rfl, rfl, by simpa using hq⟩)
    clear hq
    generalize maskB W H n f = Q0 at *
    generalize cutB W1 H1 n1 g W2 H2 n2 h lk = Q1 at *
    generalize (decide (W = W1) && decide (H = H1)) = Q2 at *
    rcases HR.out with rfl | ⟨rfl, rfl⟩ | ⟨rfl, rfl, rfl⟩
    · go_enter Try.func28, Try.ntmps28
      go_wp2_with fail
      refine (c0 _ (HP0.out.below HS0.out.below)).mono ?_
      rintro e w1 ⟨rfl, hb⟩
      have HS1 := hide (HS0.out.next hb)
      clear hb
      go_wp2_with fail
      go_ret
      exact ⟨rfl, HS1.out.below⟩
    · go_enter Try.func28, Try.ntmps28
      go_wp2_with fail
      refine (c0 _ (HP0.out.below HS0.out.below)).mono ?_
      rintro e w1 ⟨rfl, hb⟩
      have HS1 := hide (HS0.out.next hb)
      obtain ⟨i0, i1, i2⟩ := HS1.out.im3 2 rfl
      obtain ⟨j0, j1, j2⟩ := HS1.out.im3 1 rfl
      have k0 := HS1.out.cell 0 rfl 0 rfl
      clear hb
      go_wp2_with fail
      refine (c1 _ (HP1.out.below HS1.out.below) (HP2.out.below HS1.out.below)).mono ?_
      rintro e w2 ⟨rfl, hb⟩
      have HS2 := hide (HS1.out.next hb)
      clear hb
      go_wp2_with fail
      go_ret
      exact ⟨rfl, HS2.out.below⟩
    · go_enter Try.func28, Try.ntmps28
      go_wp2_with fail
      refine (c0 _ (HP0.out.below HS0.out.below)).mono ?_
      rintro e w1 ⟨rfl, hb⟩
      have HS1 := hide (HS0.out.next hb)
      obtain ⟨i0, i1, i2⟩ := HS1.out.im3 2 rfl
      obtain ⟨j0, j1, j2⟩ := HS1.out.im3 1 rfl
      have k0 := HS1.out.cell 0 rfl 0 rfl
      clear hb
      go_wp2_with fail
      refine (c1 _ (HP1.out.below HS1.out.below) (HP2.out.below HS1.out.below)).mono ?_
      rintro e w2 ⟨rfl, hb⟩
      have HS2 := hide (HS1.out.next hb)
      clear hb i0 i1 i2 j0 j1 j2 k0
      obtain ⟨i0, i1, i2⟩ := HS2.out.im3 2 rfl
      obtain ⟨j0, j1, j2⟩ := HS2.out.im3 3 rfl
      go_wp2_with fail
      refine (c2 _).mono ?_
      rintro e w3 ⟨rfl, hb⟩
      have HS3 := hide (HS2.out.next hb)
      clear hb
      go_wp2_with fail
      go_ret
      exact ⟨rfl, HS3.out.below⟩
  rw [if_pos rfl]
  unfold cosB at hq
  simp only [Bool.and_eq_true, decide_eq_true_eq] at hq
  obtain ⟨hm, hc, rfl, rfl⟩ := hq
  obtain ⟨g1, g2, rfl, rfl, hnn, hlk⟩ := cutB_parts hc
  obtain ⟨mo, mn, mb⟩ := maskB_parts hm
  obtain ⟨hW, hH, hn, hn1, hn2⟩ := okB_side mo
  obtain ⟨_, _, gb⟩ := gryB_parts g1
  obtain ⟨go', _, hb'⟩ := gryB_parts g2
  obtain ⟨_, _, hn', _, _⟩ := okB_side go'
  obtain rfl : n = n2 := by omega
  obtain rfl : n1 = n := by omega
  rw [hm] at c0
  rw [hc] at c1
  have cP := fun w' => pictureOf_any W H a n1 cap w'
  have e3 : (decide (W = W) && decide (H = H)) = true := by simp
  rw [e3] at c2
  have HG := hide gb
  have HHh := hide hb'
  have HM := hide mb
  clear hm hc g1 g2 mo mn mb gb go' hb' hn' e3 hnn
  go_enter Try.func28, Try.ntmps28
  go_wp2_with fail
  refine (c0 _ (HP0.out.below HS0.out.below)).mono ?_
  rintro e w1 ⟨rfl, hb⟩
  have HS1 := hide (HS0.out.next hb)
  obtain ⟨i0, i1, i2⟩ := HS1.out.im3 2 rfl
  obtain ⟨j0, j1, j2⟩ := HS1.out.im3 1 rfl
  have k0 := HS1.out.cell 0 rfl 0 rfl
  clear hb c0 HS0
  go_wp2_with fail
  refine (c1 _ (HP1.out.below HS1.out.below) (HP2.out.below HS1.out.below)).mono ?_
  rintro e w2 ⟨rfl, hb⟩
  have HS2 := hide (HS1.out.next hb)
  clear hb i0 i1 i2 j0 j1 j2 k0 c1 HS1
  obtain ⟨i0, i1, i2⟩ := HS2.out.im3 2 rfl
  obtain ⟨j0, j1, j2⟩ := HS2.out.im3 3 rfl
  go_wp2_with fail
  refine (c2 _).mono ?_
  rintro e w3 ⟨rfl, hb⟩
  have HS3 := hide (HS2.out.next hb)
  clear hb i0 i1 i2 j0 j1 j2 c2 HS2
  obtain ⟨j0, j1, j2⟩ := HS3.out.im3 3 rfl
  go_wp2_with fail
  refine (cP _).mono ?_
  rintro e w4 ⟨rfl, hb⟩
  have HS4 := hide (HS3.out.next hb)
  clear hb j0 j1 j2 cP HS3
  go_upto_region 4 with fail
  obtain ⟨w5, hw5⟩ : ∃ w5, ((w4.alloc (.cells #[.int .i64 1, .int .i64 0, .int .i64 0, .int .i64 1] 138)).alloc (.cells #[.int .i64 W, .int .i64 H, .slice a n1 cap] 104)).alloc (.cells #[.int .i64 0] 2) = w5 := ⟨_, rfl⟩
  have HS5 : Hid (St w [(w4.heap.size + 1 + 1, [.int .i64 (cstU W H f g h lk 0)]), (w4.heap.size + 1, [.int .i64 W, .int .i64 H, .slice a n1 cap]), (w4.heap.size, [.int .i64 1, .int .i64 0, .int .i64 0, .int .i64 1]), (w.heap.size + 1 + 1 + 1, [.int .i64 lk]), (w.heap.size + 1 + 1, [.int .i64 W, .int .i64 H, .slice a2 n1 cap2]), (w.heap.size + 1, [.int .i64 W, .int .i64 H, .slice a1 n1 cap1]), (w.heap.size, [.int .i64 W, .int .i64 H, .slice a n1 cap])] [] w5) := by
    rw [← hw5]
    exact ((HS4.out.box [.int .i64 1, .int .i64 0, .int .i64 0, .int .i64 1] 138).box' [.int .i64 W, .int .i64 H, .slice a n1 cap] 104 (b := w4.heap.size + 1) (by simp)).box' [.int .i64 0] 2 (b := w4.heap.size + 1 + 1) (by simp)
  rw [hw5]
  obtain ⟨q0, q1, q2⟩ := HS5.out.im3 1 rfl
  clear hw5 HS4
  generalize w4.heap.size = B4 at *
  go_wp2_with fail
  clear q0 q1 q2
  go_loopw [38] (fun i wr => ∃ k : Nat, k ≤ n1 ∧ i = .int .i64 k ∧ St w [(B4 + 1 + 1, [.int .i64 (cstU W H f g h lk k)]), (B4 + 1, [.int .i64 W, .int .i64 H, .slice a n1 cap]), (B4, [.int .i64 1, .int .i64 0, .int .i64 0, .int .i64 1]), (w.heap.size + 1 + 1 + 1, [.int .i64 lk]), (w.heap.size + 1 + 1, [.int .i64 W, .int .i64 H, .slice a2 n1 cap2]), (w.heap.size + 1, [.int .i64 W, .int .i64 H, .slice a1 n1 cap1]), (w.heap.size, [.int .i64 W, .int .i64 H, .slice a n1 cap])] [] wr) (fun i _ => n1 - (intOf i).toNat)
  case atStart => exact ⟨0, by omega, rfl, HS5.out⟩
  case round =>
    obtain ⟨k, hk, rfl, hs⟩ := hrel
    have HS := hide hs
    clear hs HS5
    by_cases hlt : k < n1
    · have hfk := HM.out k hlt
      have hgk := HG.out k hlt
      have hhk := HHh.out k hlt
      have hcu := cstU_bd W H f g h lk n1 HG.out HHh.out hlk k hk
      have HU := hide (HS.out.box [.int .i64 (f k)] 2)
      obtain ⟨b0, o0, rfl, hy0⟩ := (HP0.out.below HS.out.below).at hlt
      obtain ⟨b1, o1, rfl, hy1⟩ := (HP1.out.below HU.out.below).at hlt
      obtain ⟨b2, o2, rfl, hy2⟩ := (HP2.out.below HU.out.below).at hlt
      have hOwn := ownC_eq (g := g) (h := h) hfk
      have bA := own_bd (y := 1 - f k) (by omega) hgk
      have bB := own_bd hfk hhk
      have HC : Hid (cstU W H f g h lk (k + 1) = lnkV W H f lk k (cstU W H f g h lk k + ownC f g h k) 2) := rfl
      have wO : IntKind.i64.wrap (1 - f k) = 1 - f k := by rw [IntKind.wrap_i64]; omega
      obtain ⟨A, hA⟩ : ∃ A, A = (1 - f k) * g k := ⟨_, rfl⟩
      obtain ⟨B, hB⟩ : ∃ B, B = f k * h k := ⟨_, rfl⟩
      rw [← hA] at bA hOwn
      rw [← hB] at bB hOwn
      have wA : IntKind.i64.wrap ((1 - f k) * g k) = A := by rw [← hA, IntKind.wrap_i64]; omega
      have wB : IntKind.i64.wrap (f k * h k) = B := by rw [← hB, IntKind.wrap_i64]; omega
      obtain ⟨C, hC⟩ : ∃ C, C = A + B := ⟨_, rfl⟩
      have wC : IntKind.i64.wrap (A + B) = C := by rw [← hC, IntKind.wrap_i64]; omega
      rw [← hC] at hOwn
      rw [← hOwn] at HC
      obtain ⟨Z, hZ⟩ : ∃ Z, Z = cstU W H f g h lk k + C := ⟨_, rfl⟩
      have wZ : IntKind.i64.wrap (cstU W H f g h lk k + C) = Z := by rw [← hZ, IntKind.wrap_i64]; omega
      rw [← hZ] at HC
      have bZ : 0 ≤ Z ∧ Z ≤ 60000000 := by omega
      have HZ := hide bZ
      obtain ⟨wp, hwp⟩ : ∃ wp, wr.alloc (.cells #[.int .i64 (f k)] 2) = wp := ⟨_, rfl⟩
      have HWP := hide hwp
      have HU1 : Hid (St w ((wr.heap.size, [.int .i64 (f k)]) :: [(B4 + 1 + 1, [.int .i64 (cstU W H f g h lk k)]), (B4 + 1, [.int .i64 W, .int .i64 H, .slice (some ⟨b0, o0, none⟩) n1 cap]), (B4, [.int .i64 1, .int .i64 0, .int .i64 0, .int .i64 1]), (w.heap.size + 1 + 1 + 1, [.int .i64 lk]), (w.heap.size + 1 + 1, [.int .i64 W, .int .i64 H, .slice (some ⟨b2, o2, none⟩) n1 cap2]), (w.heap.size + 1, [.int .i64 W, .int .i64 H, .slice (some ⟨b1, o1, none⟩) n1 cap1]), (w.heap.size, [.int .i64 W, .int .i64 H, .slice (some ⟨b0, o0, none⟩) n1 cap])]) [] wp) := by rw [← hwp]; exact HU.out
      change (wr.alloc (.cells #[.int .i64 (f k)] 2)).cell? _ = _ at hy1
      change (wr.alloc (.cells #[.int .i64 (f k)] 2)).cell? _ = _ at hy2
      rw [hwp] at hy1 hy2
      clear HU hwp hOwn hA hB hC hZ bA bB HS
      have c0 := HU1.out.cell 1 rfl 0 rfl
      have fr := HU1.out.free 1 rfl 0 rfl
      have px := HU1.out.cell 0 rfl 0 rfl
      have s2 := HU1.out.cell 6 rfl 2 rfl
      have k2 := HU1.out.cell 5 rfl 2 rfl
      have HV := hide (St.fill (L1 := [(wr.heap.size, [.int .i64 (f k)])]) HU1.out 0 (.int .i64 Z)).drew
      generalize hE : cstU W H f g h lk k = E at *
      go_upto_region 7 with fail
      rw [HWP.out]
      clear hy0
      generalize f k = y at c0 px wO wA wB ⊢
      go_region
      all_goals
        clear c0 fr px s2 k2 hy1 hy2 wO wA wB wC wZ HU1
        obtain ⟨w7, hw7⟩ : ∃ w7, (wp.setCell ⟨B4 + 1 + 1, 0, none⟩ (.int .i64 Z)).drew = w7 := ⟨_, rfl⟩
        rw [hw7] at HV ⊢
        clear hw7
        have q0 := HV.out.cell 2 rfl 0 rfl
        have q1 := HV.out.cell 2 rfl 1 rfl
        have HV5 := hide (HV.out.sub (L' := [(wr.heap.size, [.int .i64 (f k)]), (B4 + 1 + 1, [.int .i64 Z]), (B4 + 1, [.int .i64 W, .int .i64 H, .slice (some ⟨b0, o0, none⟩) n1 cap]), (B4, [.int .i64 1, .int .i64 0, .int .i64 0, .int .i64 1]), (w.heap.size + 1 + 1 + 1, [.int .i64 lk])]) (O' := []) ((((((List.Sublist.refl []).cons _).cons _).cons _).cons_cons _).cons_cons _ |>.cons_cons _ |>.cons_cons _ |>.cons_cons _) (List.Sublist.refl _))
        have cV := cstRound_any W H (some ⟨b0, o0, none⟩) n1 cap f hn hn2 hW hH lk hlk k hlt Z HZ.out wr.heap.size (B4 + 1 + 1) (B4 + 1) B4 (w.heap.size + 1 + 1 + 1) w w7 HV5.out HP0.out
        clear HV5
        go_wp2_with fail
        refine cV.mono ?_
        rintro e w8 ⟨rfl, hk8, hbx8⟩
        have HS8 : Hid (St w [(B4 + 1 + 1, [.int .i64 (cstU W H f g h lk (k + 1))]), (B4 + 1, [.int .i64 W, .int .i64 H, .slice (some ⟨b0, o0, none⟩) n1 cap]), (B4, [.int .i64 1, .int .i64 0, .int .i64 0, .int .i64 1]), (w.heap.size + 1 + 1 + 1, [.int .i64 lk]), (w.heap.size + 1 + 1, [.int .i64 W, .int .i64 H, .slice (some ⟨b2, o2, none⟩) n1 cap2]), (w.heap.size + 1, [.int .i64 W, .int .i64 H, .slice (some ⟨b1, o1, none⟩) n1 cap1]), (w.heap.size, [.int .i64 W, .int .i64 H, .slice (some ⟨b0, o0, none⟩) n1 cap])] [] w8) := by
          rw [HC.out]
          exact (St.kps (L1 := [(wr.heap.size, [.int .i64 (f k)])]) HV.out hk8 hbx8).sub (List.sublist_cons_self ..) (List.Sublist.refl _)
        clear hk8 hbx8 cV q0 q1 HV HC HWP HG HHh HM HP0 HP1 HP2 HZ hE
        go_wp2_with fail
        exact ⟨⟨k + 1, by omega, rfl, HS8.out⟩, by simp [intOf]; omega⟩
    · obtain rfl : k = n1 := by omega
      have q0 := HS.out.cell 0 rfl 0 rfl
      have HB := hide HS.out.below
      clear HS
      go_wp2_with fail
      go_ret
      exact ⟨rfl, HB.out⟩

end Go.Proofs.Ytgkjndhobijdiaa

/- Joint counts: the specification. -/
import Derived.Test.YtfpcenaaenondaaJcj
import Derived.Deep.CutBlock
namespace Go.Proofs.Ytfpcenaaenondaa
open Go.RowKit

theorem St.belowB {w0 : World} {L : List BoxT} {w w' : World} {B : Nat} (h : St w0 L [] w) (hb : Below B w w') (hB : w0.heap.size ≤ B) (hL : ∀ x ∈ L, x.1 < B) : St w0 L [] w' :=
  ⟨h.below.trans (hb.mono hB), fun x hx => (h.bx x hx).below hb (hL x hx), fun x hx => (by cases hx), fun b hb' => ⟨(h.lt b hb').1, Nat.lt_of_lt_of_le (h.lt b hb').2 hb.size⟩, h.nd⟩
/-- where a pair belongs in a list -/
def posJ (a b : Int) : List J3 → Nat
  | [] => 0
  | x :: t => if ltJ a b x then posJ a b t + 1 else 0
theorem posJ_spec (a b : Int) : ∀ L : List J3, posJ a b L ≤ L.length ∧ (∀ j x, j < posJ a b L → L[j]? = some x → ltJ a b x) ∧ ∀ x, L[posJ a b L]? = some x → ¬ ltJ a b x
  | [] => ⟨Nat.le_refl _, fun j x hj => absurd hj (Nat.not_lt_zero _), fun x hx => by simp [posJ] at hx⟩
  | y :: t => by
    obtain ⟨h1, h2, h3⟩ := posJ_spec a b t
    simp only [posJ]
    by_cases h : ltJ a b y
    · rw [if_pos h]
      refine ⟨by simpa using h1, fun j x hj hx => ?_, fun x hx => h3 x (by simpa using hx)⟩
      cases j with
      | zero => simp at hx; subst hx; exact h
      | succ j => exact h2 j x (by omega) (by simpa using hx)
    · rw [if_neg h]
      exact ⟨Nat.zero_le _, fun j x hj => absurd hj (Nat.not_lt_zero _), fun x hx => by simp at hx; subst hx; exact h⟩

theorem cell_up {w w' : World} {a : Addr} {v : Value} (hb : Below w.heap.size w w') (h : w.cell? a = some v) : w'.cell? a = some v := (hb.cell (World.block_lt_of_cell? w a h)).trans h

set_option maxRecDepth 100000 in
set_option maxHeartbeats 8000000 in
theorem specJointCounts_any (W H : Int) (a : Option Addr) (n cap : Nat) (f : Nat → Int) (hl : n ≤ 1048576) (W' H' : Int) (a' : Option Addr) (n' cap' : Nat) (g : Nat → Int) (hl' : n' ≤ 1048576) (w : World) (h : Px a n f w) (h' : Px a' n' g w) :
    Calls Try.prog 5 #[im W H a n cap, im W' H' a' n' cap'] w (JlR (jcL (jcB W H n f W' H' n' g) f g n).length (jlF (jcL (jcB W H n f W' H' n' g) f g n)) w) := by
  have HS0 := hide (((St.start w).box [.int .i64 W, .int .i64 H, .slice a n cap] 28).box' [.int .i64 W', .int .i64 H', .slice a' n' cap'] 28 (b := w.heap.size + 1) (by simp))
  have c0 := fun w' h => specOk_any W H a n cap f hl w' h
  have c1 := fun w' h => specOk_any W' H' a' n' cap' g hl' w' h
  have HP := hide h
  have HP' := hide h'
  clear h h'
  have HJ : Hid (∀ q, (okB W H n f && (okB W' H' n' g && (decide (W = W') && decide (H = H')))) = q → jcL (jcB W H n f W' H' n' g) f g n = jcL q f g n) := fun q h => by unfold jcB; rw [h]
  have HNN : Hid (okB W H n f = true → okB W' H' n' g = true → W = W' → H = H' → n = n' ∧ 1 ≤ n ∧ n ≤ 4096) := fun h1 h2 h3 h4 => by
    obtain ⟨x1, x2, x3, -⟩ := okB_parts h1
    obtain ⟨-, -, y3, -⟩ := okB_parts h2
    have := prod_bounds x1 x2
    rw [← h3, ← h4] at y3
    omega
  generalize jcL (jcB W H n f W' H' n' g) f g n = LL at *
  generalize hq1 : okB W H n f = q1 at *
  generalize hq2 : okB W' H' n' g = q2 at *
  clear hq1 hq2
  have HNil : Hid (∀ v w', Below w.heap.size w w' → w'.ownsRow (w.heap.size + 2) 38 3 v 0 (ints []) → JlR ([] : List J3).length (jlF []) w (.returned v) w') := fun v w' hb ho => JlR.of (L := []) ho (by omega) hb
  -- the empty list
  have hz2 : ((w.alloc (.cells #[.int .i64 W, .int .i64 H, .slice a n cap] 28)).alloc (.cells #[.int .i64 W', .int .i64 H', .slice a' n' cap'] 28)).heap.size = w.heap.size + 2 := by simp
  have hOv := World.ownsRow_made (e := 38) (size := 3) ((w.alloc (.cells #[.int .i64 W, .int .i64 H, .slice a n cap] 28)).alloc (.cells #[.int .i64 W', .int .i64 H', .slice a' n' cap'] 28)) (#[] : Array Value) 0 (Nat.le_refl _) (by unfold maxLen; omega) (by simp)
  have HO0 := hide hOv
  rw [hz2] at HO0
  have HS1 := hide (HS0.out.next (bnew _ (.cells #[] 38)))
  have HZ1 : Hid (w.heap.size + 2 ≤ (((w.alloc (.cells #[.int .i64 W, .int .i64 H, .slice a n cap] 28)).alloc (.cells #[.int .i64 W', .int .i64 H', .slice a' n' cap'] 28)).alloc (.cells #[] 38)).heap.size) := by show _ ≤ _; simp
  clear hOv hz2 HS0
  go_enter Try.func5, Try.ntmps5
  go_upto_region 2 with fail
  generalize ((w.alloc (.cells #[.int .i64 W, .int .i64 H, .slice a n cap] 28)).alloc (.cells #[.int .i64 W', .int .i64 H', .slice a' n' cap'] 28)).alloc (.cells #[] 38) = w1 at *
  generalize (Value.slice (some ⟨w.heap.size + 2, 0, none⟩) 0 0) = v0 at *
  obtain ⟨i0, i1, i2⟩ := HS1.out.im3 1 rfl
  have x0 := HP.out.below HS1.out.below
  cases q1
  · have e : LL = [] := HJ.out false (by trivial)
    subst e
    clear HJ HNN HP HP' c1
    go_wp2_with fail
    refine (c0 _ x0).mono ?_
    rintro e w2 ⟨rfl, hb⟩
    have HB := hide (HS1.out.next hb).below
    have HO := hide (ownsRow_up HO0.out hb)
    clear hb HS1 c0 x0 i0 i1 i2
    go_wp2_with fail
    go_ret
    exact HNil.out _ _ HB.out HO.out
  go_wp2_with fail
  refine (c0 _ x0).mono ?_
  rintro e w2 ⟨rfl, hb⟩
  have HS2 := hide (HS1.out.next hb)
  have HO2 := hide (ownsRow_up HO0.out hb)
  have HZ2 : Hid (w.heap.size + 2 ≤ w2.heap.size) := Nat.le_trans HZ1.out hb.size
  clear hb HS1 HO0 HZ1 c0 x0 i0 i1 i2
  obtain ⟨j0, j1, j2⟩ := HS2.out.im3 0 rfl
  have x1 := HP'.out.below HS2.out.below
  cases q2
  · have e : LL = [] := HJ.out false (by trivial)
    subst e
    clear HJ HNN HP HP'
    go_wp2_with fail
    refine (c1 _ x1).mono ?_
    rintro e w3 ⟨rfl, hb⟩
    have HB := hide (HS2.out.next hb).below
    have HO := hide (ownsRow_up HO2.out hb)
    clear hb HS2 c1 x1 j0 j1 j2
    go_wp2_with fail
    go_ret
    exact HNil.out _ _ HB.out HO.out
  go_wp2_with fail
  refine (c1 _ x1).mono ?_
  rintro e w3 ⟨rfl, hb⟩
  have HS3 := hide (HS2.out.next hb)
  have HO3 := hide (ownsRow_up HO2.out hb)
  have HZ3 : Hid (w.heap.size + 2 ≤ w3.heap.size) := Nat.le_trans HZ2.out hb.size
  clear hb HS2 HO2 HZ2 c1 x1 j0 j1 j2
  obtain ⟨j0, j1, j2⟩ := HS3.out.im3 0 rfl
  obtain ⟨i0, i1, i2⟩ := HS3.out.im3 1 rfl
  by_cases hW : W = W'
  case neg =>
    have e : LL = [] := HJ.out false (by simp [hW])
    subst e
    have qW : (W != W') = true := by simp [hW]
    have HB := hide HS3.out.below
    clear HJ HNN HP HP' hW HS3
    go_wp2_with fail
    go_ret
    exact HNil.out _ _ HB.out HO3.out
  by_cases hH : H = H'
  case neg =>
    have e : LL = [] := HJ.out false (by simp [hH])
    subst e
    have qW : (W != W') = false := by simp [hW]
    have qH : (H != H') = true := by simp [hH]
    have HB := hide HS3.out.below
    clear HJ HNN HP HP' hW hH HS3
    go_wp2_with fail
    go_ret
    exact HNil.out _ _ HB.out HO3.out
  obtain ⟨rfl, hn1, hn4⟩ := HNN.out (by trivial) (by trivial) hW hH
  have e : LL = jnt (prs f g n) := HJ.out true (by simp [hW, hH])
  subst e
  subst hW
  subst hH
  have qW : (W != W) = false := by simp
  have qH : (H != H) = false := by simp
  have HN := hide (And.intro hn1 hn4)
  clear HJ HNN HNil hn1 hn4
  go_wp2_with fail
  clear qW qH i0 i1 i2 j0 j1 j2
  go_loopw [5, 6, 7, 8] (fun v i _ _ wr => ∃ k : Nat, k ≤ n ∧ i = .int .i64 k ∧ wr.ownsRow (w.heap.size + 2) 38 3 v (jnt (prs f g k)).length (ints (jl (jnt (prs f g k)))) ∧ Below (w.heap.size + 2) w3 wr) (fun _ i _ _ _ => n - (intOf i).toNat)
  case atStart => exact ⟨0, by omega, rfl, HO3.out, Below.refl _ _⟩
  case round =>
    obtain ⟨k, hk, rfl, ho, hb⟩ := hrel
    have HSr := hide (HS3.out.belowB hb (by omega) (fun x hx => by
      rcases List.mem_cons.1 hx with rfl | hx
      · show w.heap.size + 1 < _; omega
      · rcases List.mem_cons.1 hx with rfl | hx
        · show w.heap.size < _; omega
        · cases hx))
    obtain ⟨j0, j1, j2⟩ := HSr.out.im3 0 rfl
    obtain ⟨i0, i1, i2⟩ := HSr.out.im3 1 rfl
    have HB := hide hb
    have HO := hide ho
    clear HO3 hb ho
    by_cases hlt : k < n
    · obtain ⟨b0, o0, rfl, zz0⟩ := HP.out.at hlt
      obtain ⟨b1, o1, rfl, zz1⟩ := HP'.out.at hlt
      have z0 := cell_up HSr.out.below zz0
      have z1 := cell_up HSr.out.below zz1
      have HZ0 := hide zz0
      have HZ1' := hide zz1
      clear zz0 zz1
      have HSB := hide (fun (wl : World) (hb : Below (w.heap.size + 2) w3 wl) => HS3.out.belowB hb (by omega) (fun x hx => by
        rcases List.mem_cons.1 hx with rfl | hx
        · show w.heap.size + 1 < _; omega
        · rcases List.mem_cons.1 hx with rfl | hx
          · show w.heap.size < _; omega
          · cases hx))
      have hbd := jnt_bd (prs f g k)
      rw [prs_len] at hbd
      have hn4 := HN.out.2
      have HSu : Hid (jnt (prs f g (k + 1)) = insJ (f k) (g k) (jnt (prs f g k))) := by show _ = _; rw [prs_succ, jnt_snoc]
      obtain ⟨va, cap1, rfl, hva⟩ := own_sl HO.out
      have HVA := hide hva
      have hps := posJ_spec (f k) (g k) (jnt (prs f g k))
      have hm := fun t x (h1 : (jnt (prs f g k))[t]? = some x) (h2 : eqJ (f k) (g k) x) => insJ_eq (a := f k) (b := g k) (L := jnt (prs f g k)) (t := t)
      have HCnt : Hid (∀ x ∈ jnt (prs f g k), 0 < x.2.2 ∧ x.2.2 ≤ 4096) := fun x hx => by have := hbd.2 x hx; omega
      have hL4 : (jnt (prs f g k)).length ≤ 4096 := by omega
      clear hbd HN hva hm
      obtain ⟨L2, hL2⟩ : ∃ L2, jnt (prs f g (k + 1)) = L2 := ⟨_, rfl⟩
      rw [hL2] at HSu
      have HTT := hide hL2
      clear hL2
      generalize jnt (prs f g k) = L1 at *
      have HSZ : Hid (w.heap.size + 2 ≤ wr.heap.size) := Nat.le_trans HZ3.out HB.out.size
      generalize f k = x at *
      generalize g k = y at *
      obtain ⟨T, hT⟩ : ∃ T, posJ x y L1 = T := ⟨_, rfl⟩
      rw [hT] at hps
      obtain ⟨hT1, hT2, hT3⟩ := hps
      have HT2 := hide hT2
      have HT3 := hide hT3
      have HT1 := hide hT1
      have HL4 := hide hL4
      have hk' : (k : Int) < (n : Int) := by omega
      clear hT hT1 hT2 hT3 hL4 HP HP'
      go_upto_block 2 with fail
      go_cut [7] (fun sl wc => sl = .int .i64 (T : Nat) ∧ Below wr.heap.size wr wc)
      case first =>
        obtain ⟨wo, hwo⟩ : ∃ wo, wo = wr := ⟨_, rfl⟩
        subst hwo
        go_wp2_with fail
        go_loopw [7] (fun t wr => ∃ t' : Nat, t' ≤ T ∧ t = .int .i64 t' ∧ Below wo.heap.size wo wr) (fun t _ => T - (intOf t).toNat)
        case atStart => exact ⟨0, Nat.zero_le _, rfl, Below.refl _ _⟩
        case round =>
          obtain ⟨t, ht, rfl, hbt⟩ := hrel
          have HBt := hide hbt
          have SK : Nonempty (Up wr) := up_ne wr
          by_cases hl : t < L1.length
          · obtain ⟨bv, rfl, hv1, hv2, hv3⟩ := HVA.out (by omega)
            obtain ⟨⟨A, B', C⟩, hz⟩ : ∃ z, L1[t]? = some z := ⟨_, List.getElem?_eq_getElem hl⟩
            obtain ⟨g0, g1, -⟩ := jl_get hz
            have y0 := (hv3 (t * 3) (by omega)).1
            have y1 := (hv3 (t * 3 + 1) (by omega)).1
            rw [g0] at y0
            rw [g1] at y1
            have HZ := hide hz
            have u0 := fun p : Up wr => p.cell (cell_up hbt y0)
            have u1 := fun p : Up wr => p.cell (cell_up hbt y1)
            have u2 := fun p : Up wr => p.cell (cell_up hbt i2)
            have u3 := fun p : Up wr => p.cell (cell_up hbt j2)
            have u4 := fun p : Up wr => p.cell (cell_up hbt z0)
            have u5 := fun p : Up wr => p.cell (cell_up hbt z1)
            have hl' : (t : Int) < (L1.length : Int) := by omega
            have ht9 : t ≤ 4096 := by have := HL4.out; omega
            have HLT : Hid (ltJ x y (A, B', C) → t < T) := fun h => by
              rcases Nat.lt_or_ge t T with h9 | h9
              · exact h9
              · obtain rfl : t = T := by omega
                exact absurd h (HT3.out _ HZ.out)
            have HGE : Hid (¬ ltJ x y (A, B', C) → t = T) := fun h => by
              rcases Nat.lt_or_ge t T with h9 | h9
              · exact absurd (HT2.out t _ h9 HZ.out) h
              · omega
            clear hz g0 g1 y0 y1 hv3 hbt hv1 hv2 i0 i1 i2 j0 j1 j2 z0 z1
            go_upto_region 8 with fail
            by_cases hA : A < x
            · have q : decide (A < x) = true := by simp [hA]
              have HT := hide (HLT.out (Or.inl hA))
              clear hA HGE HLT
              refine region_up (by kernel_rfl) (by kernel_rfl) ?_
              repeat (go_big_quiet_step (exact rfl))
              refine wpQuiet_nil ?_
              intro _ hw2
              obtain ⟨pq, hw3⟩ := hw2
              subst hw3
              have HB2 := hide (bnext HBt.out (Nat.le_refl _) pq.below)
              clear u0 u1 u2 u3 u4 u5 SK
              generalize pq.w = w2 at *
              go_wp2_with fail
              exact ⟨⟨t + 1, HT.out, rfl, HB2.out⟩, by have := HT.out; simp [intOf]; omega⟩
            have q : decide (A < x) = false := by simp [hA]
            by_cases hE : A = x
            · have q2 : (A == x) = true := by simp [hE]
              by_cases hY : B' < y
              · have q3 : decide (B' < y) = true := by simp [hY]
                have HT := hide (HLT.out (Or.inr ⟨hE, hY⟩))
                clear hA hE hY HGE HLT
                refine region_up (by kernel_rfl) (by kernel_rfl) ?_
                repeat (go_big_quiet_step (exact rfl))
                refine wpQuiet_nil ?_
                intro _ hw2
                obtain ⟨pq, hw3⟩ := hw2
                subst hw3
                have HB2 := hide (bnext HBt.out (Nat.le_refl _) pq.below)
                clear u0 u1 u2 u3 u4 u5 SK
                generalize pq.w = w2 at *
                go_wp2_with fail
                exact ⟨⟨t + 1, HT.out, rfl, HB2.out⟩, by have := HT.out; simp [intOf]; omega⟩
              · have q3 : decide (B' < y) = false := by simp [hY]
                have HT := hide (HGE.out (by simp only [ltJ]; omega))
                clear hA hE hY HGE HLT
                refine region_up (by kernel_rfl) (by kernel_rfl) ?_
                repeat (go_big_quiet_step (exact rfl))
                refine wpQuiet_nil ?_
                intro _ hw2
                obtain ⟨pq, hw3⟩ := hw2
                subst hw3
                have HB2 := hide (bnext HBt.out (Nat.le_refl _) pq.below)
                clear u0 u1 u2 u3 u4 u5 SK
                generalize pq.w = w2 at *
                go_wp2_with fail
                go_meet
                exact ⟨by rw [HT.out], HB2.out⟩
            · have q2 : (A == x) = false := by simp [hE]
              have HT := hide (HGE.out (by simp only [ltJ]; omega))
              clear hA hE HGE HLT
              refine region_up (by kernel_rfl) (by kernel_rfl) ?_
              repeat (go_big_quiet_step (exact rfl))
              refine wpQuiet_nil ?_
              intro _ hw2
              obtain ⟨pq, hw3⟩ := hw2
              subst hw3
              have HB2 := hide (bnext HBt.out (Nat.le_refl _) pq.below)
              clear u0 u1 u2 u3 u4 u5 SK
              generalize pq.w = w2 at *
              go_wp2_with fail
              go_meet
              exact ⟨by rw [HT.out], HB2.out⟩
          · have HT : Hid (t = T) := by have := HT1.out; show _ = _; omega
            have hl' : ¬ (t : Int) < (L1.length : Int) := by omega
            clear hl hbt i0 i1 i2 j0 j1 j2 z0 z1
            go_upto_region 8 with fail
            refine region_up (by kernel_rfl) (by kernel_rfl) ?_
            repeat (go_big_quiet_step (exact rfl))
            refine wpQuiet_nil ?_
            intro _ hw2
            obtain ⟨pq, hw3⟩ := hw2
            subst hw3
            have HB2 := hide (bnext HBt.out (Nat.le_refl _) pq.below)
            clear SK
            generalize pq.w = w2 at *
            go_wp2_with fail
            go_meet
            exact ⟨by rw [HT.out], HB2.out⟩
      case rest =>
      obtain ⟨rfl, hbc⟩ := hcut
      have HOc := hide (ownsRow_up HO.out hbc)
      have HBc := hide (bnext HB.out HZ3.out hbc)
      have z0 := cell_up hbc z0
      have z1 := cell_up hbc z1
      have i2 := cell_up hbc i2
      have j2 := cell_up hbc j2
      have HSZc : Hid (w.heap.size + 2 ≤ wc.heap.size) := Nat.le_trans HSZ.out hbc.size
      clear hbc i0 i1 j0 j1 HVA HO HB HSZ HSr
      obtain ⟨wC, hwC⟩ : ∃ wC, wC = wc := ⟨_, rfl⟩
      rw [← hwC] at HOc HBc z0 z1 i2 j2 HSZc ⊢
      clear hwC
      have SK : Nonempty (Up wC) := up_ne wC
      have u2 := fun p : Up wC => p.cell i2
      have u3 := fun p : Up wC => p.cell j2
      have u4 := fun p : Up wC => p.cell z0
      have u5 := fun p : Up wC => p.cell z1
      clear i2 j2 z0 z1
      by_cases hq : ∃ C, L1[T]? = some (x, y, C)
      · obtain ⟨C, hz⟩ := hq
        have hTl : T < L1.length := (List.getElem?_eq_some_iff.1 hz).1
        have hTl' : (T : Int) < (L1.length : Int) := by omega
        obtain ⟨_, _, e, hva⟩ := own_sl HOc.out
        cases e
        obtain ⟨bv, rfl, hv1, hv2, hv3⟩ := hva (by omega)
        obtain ⟨g0, g1, g2⟩ := jl_get hz
        have y0 := (hv3 (T * 3) (by omega)).1
        have y1 := (hv3 (T * 3 + 1) (by omega)).1
        obtain ⟨y2, fr2⟩ := hv3 (T * 3 + 2) (by omega)
        rw [g0] at y0
        rw [g1] at y1
        rw [g2] at y2
        have u0 := fun p : Up wC => p.cell y0
        have u1 := fun p : Up wC => p.cell y1
        have hC := HCnt.out _ (List.mem_of_getElem? hz)
        obtain ⟨C', hC'⟩ : ∃ C', C + 1 = C' := ⟨_, rfl⟩
        have wC' : IntKind.i64.wrap (C + 1) = C' := by rw [IntKind.wrap_i64, ← hC']; dsimp only at hC; omega
        have HL2 : Hid (L2 = L1.set T (x, y, C')) := by
          show _ = _
          rw [HSu.out, insJ_eq (t := T) (x := (x, y, C)) HT2.out hz ⟨rfl, rfl⟩, ← hC']
        have HY2 := hide y2
        have HF2 := hide fr2
        have HZZ := hide hz
        have HV := hide (And.intro hv1 hv2)
        clear g0 g1 g2 y0 y1 y2 fr2 hv3 hv1 hv2 hva hC hC' hz
        go_upto_region 10 with fail
        refine region_up (by kernel_rfl) (by kernel_rfl) ?_
        repeat (go_big_quiet_step (exact rfl))
        refine wpQuiet_nil ?_
        intro _ hw2
        obtain ⟨pq, hw3⟩ := hw2
        subst hw3
        have HB2 := hide (bnext HBc.out HZ3.out pq.below)
        have x2 := pq.cell HY2.out
        have r2 := (pq.below.frozen (p := ⟨bv, T * 3 + 2, none⟩) HV.out.2).trans HF2.out
        have HOn : Hid ((pq.w.setCell ⟨bv, T * 3 + 2, none⟩ (.int .i64 C')).ownsRow (w.heap.size + 2) 38 3 (.slice (some ⟨bv, 0, none⟩) L1.length cap1) L2.length (ints (jl L2))) := by
          have h9 := own_setI (ownsRow_up HOc.out pq.below) (T * 3 + 2) C'
          rw [jl_set2 C' HZZ.out, ← HL2.out] at h9
          show World.ownsRow _ _ _ _ _ _ _
          have hl : L2.length = L1.length := by rw [HL2.out, List.length_set]
          rw [hl]
          exact h9
        have HBn := hide (HB2.out.setCell (p := ⟨bv, T * 3 + 2, none⟩) HV.out.1 (.int .i64 C'))
        clear u0 u1 u2 u3 u4 u5 SK
        generalize pq.w = w2 at *
        go_wp2_with fail
        exact ⟨⟨k + 1, by omega, rfl, by rw [HTT.out]; exact HOn.out, HBn.out⟩, by simp [intOf]; omega⟩
      · have HNE : Hid (∀ z, L1[T]? = some z → ¬ ltJ x y z ∧ ¬ eqJ x y z) := fun z hz => ⟨HT3.out z hz, fun h => hq ⟨z.2.2, by rw [hz]; obtain ⟨h1, h2⟩ := h; rw [← h1, ← h2]⟩⟩
        clear hq
        go_upto_region 10 with fail
        go_cut [114] (fun s wc => s = .bool false ∧ Below wC.heap.size wC wc)
        case first =>
          by_cases hTl : T < L1.length
          · have hTl' : (T : Int) < (L1.length : Int) := by omega
            obtain ⟨_, _, e, hva⟩ := own_sl HOc.out
            cases e
            obtain ⟨bv, rfl, hv1, hv2, hv3⟩ := hva (by omega)
            obtain ⟨⟨A, B', C⟩, hz⟩ : ∃ z, L1[T]? = some z := ⟨_, List.getElem?_eq_getElem hTl⟩
            obtain ⟨g0, g1, -⟩ := jl_get hz
            have y0 := (hv3 (T * 3) (by omega)).1
            have y1 := (hv3 (T * 3 + 1) (by omega)).1
            rw [g0] at y0
            rw [g1] at y1
            have u0 := fun p : Up wC => p.cell y0
            have u1 := fun p : Up wC => p.cell y1
            have hne := (HNE.out _ hz).2
            simp only [eqJ] at hne
            clear g0 g1 y0 y1 hv3 hv1 hv2 hva hz
            by_cases hA : A = x
            · have q2 : (A == x) = true := by simp [hA]
              have q3 : (B' == y) = false := by simp; omega
              clear hA hne
              refine region_up (by kernel_rfl) (by kernel_rfl) ?_
              repeat (go_big_quiet_step (exact rfl))
              refine wpQuiet_nil ?_
              intro _ hw2
              obtain ⟨pq, hw3⟩ := hw2
              subst hw3
              have HB2 := hide pq.below
              generalize pq.w = w2 at *
              go_wp2_with fail
              go_meet
              exact ⟨rfl, HB2.out⟩
            · have q2 : (A == x) = false := by simp [hA]
              clear hA hne
              refine region_up (by kernel_rfl) (by kernel_rfl) ?_
              repeat (go_big_quiet_step (exact rfl))
              refine wpQuiet_nil ?_
              intro _ hw2
              obtain ⟨pq, hw3⟩ := hw2
              subst hw3
              have HB2 := hide pq.below
              generalize pq.w = w2 at *
              go_wp2_with fail
              go_meet
              exact ⟨rfl, HB2.out⟩
          · have hTl' : ¬ (T : Int) < (L1.length : Int) := by omega
            refine region_up (by kernel_rfl) (by kernel_rfl) ?_
            repeat (go_big_quiet_step (exact rfl))
            refine wpQuiet_nil ?_
            intro _ hw2
            obtain ⟨pq, hw3⟩ := hw2
            subst hw3
            have HB2 := hide pq.below
            generalize pq.w = w2 at *
            go_wp2_with fail
            go_meet
            exact ⟨rfl, HB2.out⟩
        case rest =>
        obtain ⟨rfl, hbd⟩ := hcut
        have HOd := hide (ownsRow_up HOc.out hbd)
        have HBd := hide (bnext HBc.out HZ3.out hbd)
        have HSd : Hid (w.heap.size + 2 ≤ wc.heap.size) := Nat.le_trans HSZc.out hbd.size
        clear hbd HOc HBc HSZc u2 u3 u4 u5 SK
        have HL0 : Hid (L1.length ≤ 1048576) := by show _ ≤ _; have := HL4.out; omega
        go_wp2_with (refine growJ _ rfl _ _ rfl (w.heap.size + 2) _ L1 rfl w3 HOd.out HBd.out HSd.out 0 0 0 rfl HL0.out ?_)
        intro v' w' ho' hb' hs'
        have hM : (L1 ++ [((0 : Int), (0 : Int), (0 : Int))]).length = L1.length + 1 := by simp
        try rw [hM] at ho'
        clear hM
        obtain ⟨ad, capA, rfl, hcA⟩ := own_sl ho'
        obtain ⟨bA, rfl, hBA, -, -⟩ := hcA (by omega)
        have HBA := hide hBA
        rw [← putI_end] at ho'
        have HO' := hide ho'
        have HB' := hide hb'
        clear hcA hBA ho' hb' hs' HOd HBd HSd HL0
        obtain ⟨n1, hn1⟩ : ∃ n1, L1.length = n1 := ⟨_, rfl⟩
        have HN1 := hide hn1
        rw [hn1] at HO' HT1 HL4 ⊢
        have hT1 := HT1.out
        have hL4 := HL4.out
        clear hn1
        go_wp2_with fail
        go_loopw [8] (fun i wl => ∃ I : Nat, T ≤ I ∧ I ≤ n1 ∧ i = .int .i64 (I : Nat) ∧ ∃ u, wl.ownsRow (w.heap.size + 2) 38 3 (.slice (some ⟨bA, 0, none⟩) (n1 + 1) capA) (n1 + 1) (ints (jl (putI L1 I u))) ∧ Below (w.heap.size + 2) w3 wl) (fun i _ => (intOf i).toNat)
        case atStart => exact ⟨n1, hT1, Nat.le_refl _, by first | rfl | simp, _, HO'.out, HB'.out⟩
        case round =>
          obtain ⟨I, hI1, hI2, rfl, u, ho, hb⟩ := hrel
          have HOl := hide ho
          have HBl := hide hb
          clear ho hb
          by_cases hlt2 : T < I
          · obtain ⟨J, rfl⟩ : ∃ J, I = J + 1 := ⟨I - 1, by omega⟩
            have HJT : Hid (T ≤ J ∧ J + 1 ≤ n1) := ⟨by omega, hI2⟩
            obtain ⟨⟨p1, p2, p3⟩, hp⟩ : ∃ p, L1[J]? = some p := ⟨_, List.getElem?_eq_getElem (by have := HN1.out; omega)⟩
            have hp' : (putI L1 (J + 1) u)[J]? = some (p1, p2, p3) := by rw [putI_lt u (by have := HN1.out; omega) (by omega)]; exact hp
            obtain ⟨g0, g1, g2⟩ := jl_get hp'
            obtain ⟨_, _, e, hva⟩ := own_sl HOl.out
            cases e
            obtain ⟨bv, e, -, -, hv3⟩ := hva (by omega)
            cases e
            have y0 := (hv3 (J * 3) (by omega)).1
            have y1 := (hv3 (J * 3 + 1) (by omega)).1
            have y2 := (hv3 (J * 3 + 2) (by omega)).1
            rw [g0] at y0
            rw [g1] at y1
            rw [g2] at y2
            obtain ⟨q0, f0⟩ := hv3 ((J + 1) * 3) (by omega)
            obtain ⟨q1, f1⟩ := hv3 ((J + 1) * 3 + 1) (by omega)
            obtain ⟨q2, f2⟩ := hv3 ((J + 1) * 3 + 2) (by omega)
            have HOn : Hid ((((wr.setCell ⟨bA, (J + 1) * 3, none⟩ (.int .i64 p1)).setCell ⟨bA, (J + 1) * 3 + 1, none⟩ (.int .i64 p2)).setCell ⟨bA, (J + 1) * 3 + 2, none⟩ (.int .i64 p3)).ownsRow (w.heap.size + 2) 38 3 (.slice (some ⟨bA, 0, none⟩) (n1 + 1) capA) (n1 + 1) (ints (jl (putI L1 J (p1, p2, p3))))) := by
              have h9 := own_setI (own_setI (own_setI HOl.out ((J + 1) * 3) p1) ((J + 1) * 3 + 1) p2) ((J + 1) * 3 + 2) p3
              have h8 := jl_set (L := putI L1 (J + 1) u) (k := J + 1) (p1, p2, p3) (by rw [putI_len u (by have := HN1.out; omega)]; have := HN1.out; omega)
              rw [← h8, putI_set u (p1, p2, p3) (by have := HN1.out; omega), putI_step (by omega) (by rw [Nat.add_sub_cancel]; exact hp), Nat.add_sub_cancel] at h9
              exact h9
            have HBn := hide (((HBl.out.setCell (p := ⟨bA, (J + 1) * 3, none⟩) HBA.out (.int .i64 p1)).setCell (p := ⟨bA, (J + 1) * 3 + 1, none⟩) HBA.out (.int .i64 p2)).setCell (p := ⟨bA, (J + 1) * 3 + 2, none⟩) HBA.out (.int .i64 p3))
            have hJ9 : J + 1 ≤ n1 := hI2
            have hTJ : (T : Int) < (J : Int) + 1 := by omega
            clear hp hp' g0 g1 g2 hva hv3 HOl HBl
            go_wp2_with fail
            go_roundw
            case rel => exact ⟨J, HJT.out.1, by have := HJT.out; omega, by first | rfl | go_num | (congr 1; omega), _, HOn.out, HBn.out⟩
            case measure => simp [intOf]
          · obtain rfl : T = I := by omega
            obtain ⟨_, _, e, hva⟩ := own_sl HOl.out
            cases e
            obtain ⟨bv, e, -, -, hv3⟩ := hva (by omega)
            cases e
            obtain ⟨q0, f0⟩ := hv3 (T * 3) (by omega)
            obtain ⟨q1, f1⟩ := hv3 (T * 3 + 1) (by omega)
            obtain ⟨q2, f2⟩ := hv3 (T * 3 + 2) (by omega)
            have HSl := hide (HSB.out wr HBl.out)
            have z0 := cell_up HSl.out.below HZ0.out
            have z1 := cell_up HSl.out.below HZ1'.out
            obtain ⟨-, -, j2⟩ := HSl.out.im3 0 rfl
            obtain ⟨-, -, i2⟩ := HSl.out.im3 1 rfl
            have HOn : Hid ((((wr.setCell ⟨bA, T * 3, none⟩ (.int .i64 x)).setCell ⟨bA, T * 3 + 1, none⟩ (.int .i64 y)).setCell ⟨bA, T * 3 + 2, none⟩ (.int .i64 1)).ownsRow (w.heap.size + 2) 38 3 (.slice (some ⟨bA, 0, none⟩) (n1 + 1) capA) L2.length (ints (jl L2))) := by
              have h9 := own_setI (own_setI (own_setI HOl.out (T * 3) x) (T * 3 + 1) y) (T * 3 + 2) 1
              have h8 := jl_set (L := putI L1 T u) (k := T) (x, y, 1) (by rw [putI_len u (by have := HN1.out; omega)]; have := HN1.out; omega)
              have h7 : L2 = putI L1 T (x, y, 1) := by rw [HSu.out, insJ_new (by have := HN1.out; omega) HT2.out HNE.out]; rfl
              rw [← h8, putI_set u (x, y, 1) (by have := HN1.out; omega), ← h7] at h9
              have h6 : L2.length = n1 + 1 := by rw [h7, putI_len _ (by have := HN1.out; omega), HN1.out]
              show World.ownsRow _ _ _ _ _ _ _
              rw [h6]
              exact h9
            have HBn := hide (((HBl.out.setCell (p := ⟨bA, T * 3, none⟩) HBA.out (.int .i64 x)).setCell (p := ⟨bA, T * 3 + 1, none⟩) HBA.out (.int .i64 y)).setCell (p := ⟨bA, T * 3 + 2, none⟩) HBA.out (.int .i64 1))
            have hTn : T < n1 + 1 := by omega
            clear hva hv3 HOl HBl HSl HZ0 HZ1'
            go_upto_region 17 with fail
            go_region
            all_goals
              go_wp2_with fail
              exact ⟨⟨k + 1, by omega, rfl, by rw [HTT.out]; exact HOn.out, HBn.out.drew⟩, by simp [intOf]; omega⟩
    · obtain rfl : k = n := by omega
      have HOe := hide HO.out
      have HBe := hide HSr.out.below
      clear HSr HP HP' HB
      go_wp2_with fail
      go_ret
      exact JlR.of HOe.out (by omega) HBe.out

end Go.Proofs.Ytfpcenaaenondaa

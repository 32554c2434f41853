/- The law on Vote, walked. -/
import Derived.Test.YtfbjjfpcgpkhiaaVts
namespace Go.Proofs.Ytfbjjfpcgpkhiaa
open Go.RowKit

theorem Bx.keptR {b s0 s1 : Nat} {vs : List Value} {w w' : World} (h : Bx b vs w) (hk : KeptR s0 s1 w w') (ho : b < s0 ∨ s1 ≤ b) : Bx b vs w' := fun j v hv => by
  have q := h j v hv
  exact ⟨hk.cell (a := ⟨b, j, none⟩) ho q.1, (hk.frozen (a := ⟨b, j, none⟩) ho q.1).trans q.2⟩
theorem St.keptRL {w0 : World} {L : List BoxT} {O : List OwnT} {w w' : World} {s0 s1 : Nat} (h : St w0 L O w) (hk : KeptR s0 s1 w w') (h0 : w0.heap.size ≤ s0) (hL : ∀ x ∈ L, x.1 < s0 ∨ s1 ≤ x.1) (ho : ∀ x ∈ O, x.2.2.1 = 0 ∨ x.2.1 < s0 ∨ s1 ≤ x.2.1) : St w0 L O w' :=
  ⟨h.below.trans (hk.below h0 h.below.size), fun x hx => (h.bx x hx).keptR hk (hL x hx), fun x hx => (h.ow x hx).keptR hk (ho x hx), fun b hb => ⟨(h.lt b hb).1, Nat.lt_of_lt_of_le (h.lt b hb).2 hk.size⟩, h.nd⟩

set_option maxRecDepth 100000 in
set_option maxHeartbeats 4000000 in
theorem fnExactVote_walk (a : Option Addr) (m cap : Nat) (ad : Nat → Option Addr) (ln cp : Nat → Nat) (F : Nat → Nat → Int) (Wv Hv : Nat → Int) (hm : m ≤ maxLen) (hl : ∀ i, ln i ≤ maxLen) (w : World) (h : PxM a m ad ln cp F Wv Hv w) :
    Calls Try.prog 3 #[.slice a m cap] w fun e w' => e = .returned (.bool true) ∧ Below w.heap.size w w' := by
  have cz := szImageS_any a m cap ad ln cp F Wv Hv hm hl w h
  have HP := hide h
  unfold maxLen at hm
  clear h
  go_enter Try.func3, Try.ntmps3
  go_wp2_with fail
  refine cz.mono ?_
  rintro e w1 ⟨hb1, v, rfl, hv⟩
  have HS1 := hide ((St.start w).next hb1)
  clear cz hb1
  rcases hv with hv | ⟨hv0, hv⟩
  · clear HP
    go_wp2_with fail
    go_ret
    exact ⟨rfl, HS1.out.below⟩
  have hv1 : ¬ v < 0 := by omega
  have hm' : m ≤ 1048576 := by omega
  have hml : m + sumN ln m ≤ 1048576 := hv
  have HL : Hid (∀ i, i < m → ln i ≤ 1048576) := fun i hi => by have := sumN_le (ln := ln) hi; omega
  have cT := fun w' h => toImageS_any a m cap ad ln cp F Wv Hv hm' HL.out w' h
  have cS := fun a0 (B0 : Nat → Nat) w' h => specVote_any a0 m m (fun i => some ⟨B0 i, 0, none⟩) ln ln F Wv Hv hm' HL.out w' h
  have cI := fun a0 (B0 : Nat → Nat) w' h => implVote_any a0 m m (fun i => some ⟨B0 i, 0, none⟩) ln ln F Wv Hv hm' HL.out w' h
  have cL := fun a0 a1 (B0 B1 : Nat → Nat) w' h h' => eqImageS_any a0 a1 m m m (fun i => some ⟨B0 i, 0, none⟩) (fun i => some ⟨B1 i, 0, none⟩) ln ln ln F Wv Hv hm' HL.out w' h h'
  have cM := fun o B s0 s1 w' h => markImageS_any o B m ln F Wv Hv s0 s1 hml w' h
  have hrn : pkN (atlB m ln F Wv Hv) (ln 0) ≤ 1048576 := by
    cases hq : atlB m ln F Wv Hv
    · exact Nat.zero_le _
    · have := (atl_at hq).2.2.2.1
      show ln 0 ≤ _
      omega
  unfold ImR at cS cI
  generalize pkI (atlB m ln F Wv Hv) (Wv 0) = rW at *
  generalize pkI (atlB m ln F Wv Hv) (Hv 0) = rH at *
  generalize pkN (atlB m ln F Wv Hv) (ln 0) = rN at *
  generalize votF m F = s at *
  have cE := fun x y c1 c2 w' h h' => eqImage_any rW rH x y rN c1 c2 s hrn w' h h'
  have cN := fun x b c1 => markImage_any rW rH x b rN c1 s 1 (by omega) (by omega) hrn
  have cH := fun x b c1 => heldImage_any rW rH x b rN c1 1 (by omega) (by omega) hrn
  have q0 : ¬ 1 + (rN : Int) < 0 := by omega
  have q1 : (1 + (rN : Int) != 1 + (rN : Int)) = false := by simp
  clear hv hv0 hm hl hml hm'
  go_wp2_with fail
  refine (cT _ (HP.out.below HS1.out.below)).mono ?_
  rintro e w2 ⟨rfl, hb, B2, hO⟩
  have HS2 := hide (HS1.out.next hb)
  have hp2 := hO.pxm
  clear hb HS1 hO
  go_wp2_with fail
  refine (cS _ _ _ hp2).mono ?_
  rintro e w3 ⟨ra3, rc3, rb3, rfl, ho, h1, hb⟩
  have HS3 := hide (HS2.out.own hb ho.v h1)
  clear HS2 hb ho h1 hp2 cS
  have HS4 := hide (HS3.out.box [.int .i64 rW, .int .i64 rH, .slice ra3 rN rc3] 26)
  generalize hx : World.alloc _ (.cells [.int .i64 rW, .int .i64 rH, .slice ra3 rN rc3].toArray 26) = w4 at HS4
  have hy : World.alloc _ (.cells #[.int .i64 rW, .int .i64 rH, .slice ra3 rN rc3] 26) = w4 := hx
  clear hx HS3
  go_wp2_with fail
  refine (cT _ (HP.out.below HS4.out.below)).mono ?_
  rintro e w5 ⟨rfl, hb, B5, hO5⟩
  have HLT : Hid (∀ b ∈ blocks [(w3.heap.size, [Value.int .i64 rW, .int .i64 rH, .slice ra3 rN rc3])] [(ra3, rb3, rN, fun k => Value.int .i64 (s k))], b < w4.heap.size) := fun b hb => (HS4.out.lt b hb).2
  have HS5 := hide (HS4.out.next hb)
  have HX5 := hide hO5
  have HW4 := hide HS4.out.below.size
  have hp5 := hO5.pxm
  obtain ⟨S0, hS0⟩ : ∃ S0, S0 = w4.heap.size := ⟨_, rfl⟩
  obtain ⟨S1, hS1⟩ : ∃ S1, S1 = w5.heap.size := ⟨_, rfl⟩
  rw [← hS0] at HX5 HLT HW4 hp5 ⊢
  rw [← hS1] at HX5
  have HS1Q := hide hS1
  clear hb HS4 hO5 hy hS0 hS1
  go_wp2_with fail
  refine (cI _ _ _ hp5).mono ?_
  rintro e w6 ⟨ra6, rc6, rb6, rfl, ho, h1, hb⟩
  have HG6 : Hid (rN = 0 ∨ S1 ≤ rb6) := by show _ ∨ _; rw [HS1Q.out]; exact h1
  have HX6 := hide (HX5.out.below hb)
  have HS6 := hide (HS5.out.own hb ho.v h1)
  have HZ6 : Hid (S1 ≤ w6.heap.size) := by show _ ≤ _; rw [HS1Q.out]; exact hb.size
  clear HS5 hb ho h1 hp5 HX5
  have HS7 := hide (HS6.out.box [.int .i64 rW, .int .i64 rH, .slice ra6 rN rc6] 26)
  have HX7 := hide (HX6.out.below (bnew w6 (.cells [.int .i64 rW, .int .i64 rH, .slice ra6 rN rc6].toArray 26)))
  generalize hx : World.alloc _ (.cells [.int .i64 rW, .int .i64 rH, .slice ra6 rN rc6].toArray 26) = w7 at HS7 HX7
  have hy : World.alloc _ (.cells #[.int .i64 rW, .int .i64 rH, .slice ra6 rN rc6] 26) = w7 := hx
  clear hx HS6 HX6
  obtain ⟨i0, i1, i2⟩ := HS7.out.im3 0 rfl
  obtain ⟨j0, j1, j2⟩ := HS7.out.im3 1 rfl
  have pA := (HS7.out.nthO 0 rfl).px
  have pB := (HS7.out.nthO 1 rfl).px
  go_wp2_with fail
  refine (cE _ _ _ _ _ pA pB).mono ?_
  rintro e w8 ⟨rfl, hb⟩
  have HS8 := hide (HS7.out.next hb)
  have HX8 := hide (HX7.out.below hb)
  clear hb HS7 HX7 pA pB i0 i1 i2 j0 j1 j2 hy
  go_wp2_with fail
  refine (cT _ (HP.out.below HS8.out.below)).mono ?_
  rintro e w9 ⟨rfl, hb, B9, hO⟩
  have HS9 := hide (HS8.out.next hb)
  have HX9 := hide (HX8.out.below hb)
  have hp9 := hO.pxm
  clear hb HS8 HX8 hO
  go_wp2_with fail
  refine (cL _ _ _ _ _ HX9.out.pxm hp9).mono ?_
  rintro e w10 ⟨rfl, hb⟩
  have HS10 := hide (HS9.out.next hb)
  have hX10 := HX9.out.below hb
  clear hb HS9 HX9 hp9 cL
  have cM' := cM _ _ _ _ _ hX10
  clear hX10 cM
  go_wp2_with fail
  refine cM'.mono ?_
  rintro e w11 ⟨v2, rfl, hv2, hk⟩
  have HS11 := hide (HS10.out.keptRL hk HW4.out (fun x hx => by
      rcases List.mem_cons.1 hx with rfl | hx
      · exact .inr HZ6.out
      · rcases List.mem_cons.1 hx with rfl | hx
        · exact .inl (HLT.out _ (mem_blocks_box (List.mem_cons_self ..)))
        · cases hx) (fun x hx => by
      rcases List.mem_cons.1 hx with rfl | hx
      · rcases HG6.out with h | h
        · exact .inl h
        · exact .inr (.inr h)
      · rcases List.mem_cons.1 hx with rfl | hx
        · by_cases h0 : rN = 0
          · exact .inl h0
          · exact .inr (.inl (HLT.out _ (mem_blocks_own (x := (ra3, rb3, rN, fun k => Value.int .i64 (s k))) (List.mem_cons_self ..) h0)))
        · cases hx))
  have hv3 : ¬ v2 < 0 := by omega
  clear hk HS10 cM' HG6 HLT HZ6 HW4 HS1Q hv2
  obtain ⟨i0, i1, i2⟩ := HS11.out.im3 0 rfl
  obtain ⟨j0, j1, j2⟩ := HS11.out.im3 1 rfl
  have pA := (HS11.out.nthO 0 rfl).px
  have pB := (HS11.out.nthO 1 rfl).px
  go_wp2_with fail
  refine (cE _ _ _ _ _ pA pB).mono ?_
  rintro e w12 ⟨rfl, hb⟩
  have HS12 := hide (HS11.out.next hb)
  clear hb HS11 pA pB i0 i1 i2 j0 j1 j2
  obtain ⟨i0, i1, i2⟩ := HS12.out.im3 0 rfl
  go_wp2_with fail
  refine (cN _ _ _ _ (HS12.out.nthO 0 rfl).bk.i).mono ?_
  rintro e w13 ⟨rfl, ho, hk⟩
  have HS13 := hide (HS12.out.mark (O1 := []) hk ho.v)
  clear HS12 hk ho i0 i1 i2
  obtain ⟨i0, i1, i2⟩ := HS13.out.im3 0 rfl
  go_wp2_with fail
  refine (cH _ _ _ _ (HS13.out.nthO 0 rfl).i).mono ?_
  rintro e w14 ⟨rfl, hb⟩
  have HS14 := hide (HS13.out.next hb)
  clear hb HS13 i0 i1 i2
  go_wp2_with fail
  refine (cT _ (HP.out.below HS14.out.below)).mono ?_
  rintro e w15 ⟨rfl, hb, B15, hO⟩
  have HS15 := hide (HS14.out.next hb)
  have hp15 := hO.pxm
  clear hb HS14 hO cT HP
  go_wp2_with fail
  refine (cI _ _ _ hp15).mono ?_
  rintro e w16 ⟨ra16, rc16, rb16, rfl, ho, h1, hb⟩
  have HS16 := hide (HS15.out.own hb ho.v h1)
  clear HS15 hb ho h1 hp15 cI
  have HS17 := hide (HS16.out.box [.int .i64 rW, .int .i64 rH, .slice ra16 rN rc16] 26)
  generalize hx : World.alloc _ (.cells [.int .i64 rW, .int .i64 rH, .slice ra16 rN rc16].toArray 26) = w17 at HS17
  have hy : World.alloc _ (.cells #[.int .i64 rW, .int .i64 rH, .slice ra16 rN rc16] 26) = w17 := hx
  clear hx HS16
  obtain ⟨i0, i1, i2⟩ := HS17.out.im3 0 rfl
  obtain ⟨j0, j1, j2⟩ := HS17.out.im3 2 rfl
  have pA := (HS17.out.nthO 0 rfl).px
  have pB := (HS17.out.nthO 2 rfl).px
  go_wp2_with fail
  refine (cE _ _ _ _ _ pA pB).mono ?_
  rintro e w18 ⟨rfl, hb⟩
  have HS18 := hide (HS17.out.next hb)
  clear hb HS17 pA pB i0 i1 i2 j0 j1 j2 hy
  obtain ⟨i0, i1, i2⟩ := HS18.out.im3 1 rfl
  go_wp2_with fail
  refine (cH _ _ _ _ (HS18.out.nthO 1 rfl).i).mono ?_
  rintro e w19 ⟨rfl, hb⟩
  have HB := hide (HS18.out.next hb).below
  clear hb HS18 i0 i1 i2
  go_wp2_with fail
  go_ret
  exact ⟨rfl, HB.out⟩

end Go.Proofs.Ytfbjjfpcgpkhiaa

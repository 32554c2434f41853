/- The law on FlowPlay, walked. -/
import Derived.Test.YtefgpdfbgkhncaaFps
import Derived.Test.YtefgpdfbgkhncaaAcm
import Derived.Test.YtefgpdfbgkhncaaOrm
namespace Go.Proofs.Ytefgpdfbgkhncaa
open Go.RowKit

/-- two lists that are new at once -/
theorem St.own2 {w0 : World} {L : List BoxT} {O : List OwnT} {w w' : World} (h : St w0 L O w) (hb : Below w.heap.size w w') {a a2 : Option Addr} {b b2 n m : Nat} {f f2 : Nat → Value} (ho : OwV a b n f w') (h1 : n = 0 ∨ w.heap.size ≤ b) (ho2 : OwV a2 b2 m f2 w') (h2 : m = 0 ∨ w.heap.size ≤ b2) (hd : n = 0 ∨ m = 0 ∨ b ≠ b2) :
    St w0 L ((a, b, n, f) :: (a2, b2, m, f2) :: O) w' := by
  have k := h.own hb ho2 h2
  have kow : ∀ x ∈ (a, b, n, f) :: (a2, b2, m, f2) :: O, OwV x.1 x.2.1 x.2.2.1 x.2.2.2 w' := by
    intro x hx
    rcases List.mem_cons.1 hx with rfl | hx
    · exact ho
    · exact k.ow x hx
  by_cases h0 : n = 0
  · have e : blocks L ((a, b, n, f) :: (a2, b2, m, f2) :: O) = blocks L ((a2, b2, m, f2) :: O) := by unfold blocks; rw [List.filter_cons_of_neg (by simp [h0])]
    exact ⟨k.below, k.bx, kow, by rw [e]; exact k.lt, by rw [e]; exact k.nd⟩
  · have pm : (blocks L ((a, b, n, f) :: (a2, b2, m, f2) :: O)).Perm (b :: blocks L ((a2, b2, m, f2) :: O)) := by
      unfold blocks
      rw [List.filter_cons_of_pos (by simp [h0])]
      exact List.perm_middle
    have h3 : b < w'.heap.size := ho.lt h0
    have h1' : w.heap.size ≤ b := h1.resolve_left h0
    refine ⟨k.below, k.bx, kow, ?_, ?_⟩
    · intro c hc
      rcases List.mem_cons.1 (pm.mem_iff.1 hc) with rfl | hc
      · exact ⟨Nat.le_trans h.below.size h1', h3⟩
      · exact k.lt c hc
    · rw [pm.nodup_iff]
      refine List.nodup_cons.2 ⟨fun hbm => ?_, k.nd⟩
      have hbm' : b ∈ blocks L O ∨ (m ≠ 0 ∧ b = b2) := by
        by_cases hm : m = 0
        · left
          have e : blocks L ((a2, b2, m, f2) :: O) = blocks L O := by unfold blocks; rw [List.filter_cons_of_neg (by simp [hm])]
          rwa [e] at hbm
        · have pm2 : (blocks L ((a2, b2, m, f2) :: O)).Perm (b2 :: blocks L O) := by
            unfold blocks
            rw [List.filter_cons_of_pos (by simp [hm])]
            exact List.perm_middle
          rcases List.mem_cons.1 (pm2.mem_iff.1 hbm) with e | e
          · exact .inr ⟨hm, e⟩
          · exact .inl e
      rcases hbm' with e | ⟨hm, e⟩
      · exact absurd (h.lt _ e).2 (by omega)
      · rcases hd with h | h | h
        · exact h0 h
        · exact hm h
        · exact h e

set_option maxRecDepth 100000 in
set_option maxHeartbeats 8000000 in
theorem fnExactFlowPlay_walk (a0 : Option Addr) (n0 cap0 : Nat) (f0 : Nat → Int) (hl0 : n0 ≤ maxLen) (w : World) (h0 : Px a0 (n0 * 3) f0 w) :
    Calls Try.prog 5 #[.slice a0 n0 cap0] w fun e w' => e = .returned (.bool true) ∧ Below w.heap.size w w' := by
  unfold maxLen at hl0
  have HS0 := hide (St.start w)
  have HP0 := hide h0
  clear h0
  have hz0 := szActS_any a0 n0 cap0 (1048576) (by omega) (by omega) (by omega)
  by_cases hb0 : (1048576 : Int) < n0
  · rw [if_pos hb0] at hz0
    clear hb0 hl0
    go_enter Try.func5, Try.ntmps5
    go_wp2_with fail
    refine (hz0 _).mono ?_
    rintro e wz0 ⟨rfl, rfl⟩
    go_wp2_with fail
    go_ret
    exact ⟨rfl, HS0.out.below⟩
  rw [if_neg hb0] at hz0
  have hn0 : ¬ (1048576 - (n0 : Int) : Int) < 0 := by omega
  have hL0 : n0 ≤ 1048576 := by omega
  have cT := fun w' h => toActS_any a0 n0 cap0 f0 hL0 w' h
  have cA := fun x y w' h h' => eqActS_any (some ⟨x, 0, none⟩) (some ⟨y, 0, none⟩) n0 n0 n0 f0 hL0 w' h h'
  have cS := fun x w' h => specFlowPlay_any (some ⟨x, 0, none⟩) n0 n0 f0 hL0 w' h
  have cI := fun x w' h => implFlowPlay_any (some ⟨x, 0, none⟩) n0 n0 f0 hL0 w' h
  unfold FlP at cS cI
  have hrn0 := fpN_le f0 n0
  have hrm0 := fpM_le n0
  generalize fpK f0 n0 = rK at *
  generalize fpN f0 n0 = rN at *
  generalize fpL f0 n0 = s at *
  generalize fpM n0 = rM at *
  generalize fpC f0 n0 = t at *
  have hrn : rN ≤ 1048576 := by omega
  have hrm : rM ≤ 1048576 := by omega
  have cE := fun x y c1 c2 w' h h' => eqFlow_any rK x y rN c1 c2 s hrn w' h h'
  have cF := fun x y c1 c2 w' h h' => eqInts_b x y rM c1 c2 t hrm w' h h'
  have cN := fun x b c1 => markFlow_any rK x b rN c1 s hrn 1 (by omega) (by omega)
  have cO := fun x b c1 => mark_any x b rM c1 t (1 + 4 * (rN : Int)) (by omega) (by omega) hrm
  have cH := fun x b c1 => heldFlow_any rK x b rN c1 hrn
  have cG := fun x b c1 => held_any x b rM c1 (1 + 4 * (rN : Int)) (by omega) (by omega) hrm
  have cM := fun x b => markActS_any (some ⟨x, 0, none⟩) b n0 n0 f0 hL0
  have q0 : ¬ 1 + 4 * (rN : Int) < 0 := by omega
  have q1 : ¬ 1 + 4 * (rN : Int) + (rM : Int) < 0 := by omega
  have q2 : ¬ 1 + 3 * (n0 : Int) < 0 := by omega
  have q3 : (1 + 4 * (rN : Int) + (rM : Int) != 1 + 4 * (rN : Int) + (rM : Int)) = false := by simp
  clear hrn0 hrm0 hl0 hb0
  go_enter Try.func5, Try.ntmps5
  go_wp2_with fail
  refine (hz0 _).mono ?_
  rintro e wz0 ⟨rfl, hwz⟩
  have hwy := hwz.symm
  clear hwz
  subst hwy
  clear hz0
  go_wp2_with fail
  refine (cT _ (HP0.out.below HS0.out.below)).mono ?_
  rintro e w11 ⟨rfl, hr, hb, -⟩
  have HS12 := hide (HS0.out.own hb hr.v (.inr (Nat.le_refl _)))
  clear hb hr HS0
  have pA := (HS12.out.nthO 0 rfl).px
  go_wp2_with fail
  refine (cS _ _ pA).mono ?_
  rintro e w13 ⟨p0, pc0, pb0, p1, pc1, pb1, rfl, ho, h1, ho2, h2, hd, hb⟩
  have HS15 := hide ((HS12.out.own2 hb ho.v h1 ho2.v h2 hd).box [.int .i64 rK, .slice p0 rN pc0] 29)
  generalize hxw14 : w13.alloc (.cells [.int .i64 rK, .slice p0 rN pc0].toArray 29) = w14 at HS15
  have hyw14 : w13.alloc (.cells #[.int .i64 rK, .slice p0 rN pc0] 29) = w14 := hxw14
  clear hxw14 hb ho h1 ho2 h2 hd pA HS12
  clear cS
  go_wp2_with fail
  refine (cT _ (HP0.out.below HS15.out.below)).mono ?_
  rintro e w16 ⟨rfl, hr, hb, -⟩
  have HS17 := hide (HS15.out.own hb hr.v (.inr (Nat.le_refl _)))
  clear hb hr HS15
  clear hyw14
  have pA := (HS17.out.nthO 0 rfl).px
  go_wp2_with fail
  refine (cI _ _ pA).mono ?_
  rintro e w18 ⟨g0, gc0, gb0, g1, gc1, gb1, rfl, ho, h1, ho2, h2, hd, hb⟩
  have HS20 := hide ((HS17.out.own2 hb ho.v h1 ho2.v h2 hd).box [.int .i64 rK, .slice g0 rN gc0] 29)
  generalize hxw19 : w18.alloc (.cells [.int .i64 rK, .slice g0 rN gc0].toArray 29) = w19 at HS20
  have hyw19 : w18.alloc (.cells #[.int .i64 rK, .slice g0 rN gc0] 29) = w19 := hxw19
  clear hxw19 hb ho h1 ho2 h2 hd pA HS17
  obtain ⟨i0, i1⟩ := HS20.out.im2 0 rfl
  obtain ⟨j0, j1⟩ := HS20.out.im2 1 rfl
  have pA := (HS20.out.nthO 0 rfl).px
  have pB := (HS20.out.nthO 3 rfl).px
  go_wp2_with fail
  refine (cE _ _ _ _ _ pA pB).mono ?_
  rintro e w21 ⟨rfl, hb⟩
  have HS23 := hide (HS20.out.next hb)
  clear HS20 hb i0 i1 j0 j1 pA pB hyw19
  have pA := (HS23.out.nthO 1 rfl).px
  have pB := (HS23.out.nthO 4 rfl).px
  go_wp2_with fail
  refine (cF _ _ _ _ _ pA pB).mono ?_
  rintro e w22 ⟨rfl, hb⟩
  have HS24 := hide (HS23.out.next hb)
  clear HS23 hb pA pB
  go_wp2_with fail
  refine (cT _ (HP0.out.below HS24.out.below)).mono ?_
  rintro e w25 ⟨rfl, hr, hb, -⟩
  have HS26 := hide (HS24.out.own hb hr.v (.inr (Nat.le_refl _)))
  clear hb hr HS24
  have pA := (HS26.out.nthO 3 rfl).px
  have pB := (HS26.out.nthO 0 rfl).px
  go_wp2_with fail
  refine (cA _ _ _ pA pB).mono ?_
  rintro e w27 ⟨rfl, hb⟩
  have HS28 := hide (HS26.out.next hb)
  clear HS26 hb pA pB cA
  go_wp2_with fail
  refine (cM _ _ _ (HS28.out.nthO 3 rfl).bk.i).mono ?_
  rintro e w29 ⟨rfl, ho, hk⟩
  have HS30 : Hid (St w [(w18.heap.size, [.int .i64 rK, .slice g0 rN gc0]), (w13.heap.size, [.int .i64 rK, .slice p0 rN pc0])] [(some ⟨w22.heap.size, 0, none⟩, w22.heap.size, n0 * 3, (fun k => .int .i64 (f0 k))), (g0, gb0, rN * 4, (fun k => .int .i64 (s k))), (g1, gb1, rM, (fun k => .int .i64 (t k))), (some ⟨w14.heap.size, 0, none⟩, w14.heap.size, n0 * 3, (fun k => .int .i64 (1 + (k : Int)))), (p0, pb0, rN * 4, (fun k => .int .i64 (s k))), (p1, pb1, rM, (fun k => .int .i64 (t k))), (some ⟨w.heap.size, 0, none⟩, w.heap.size, n0 * 3, (fun k => .int .i64 (f0 k)))] w29) := HS28.out.mark (O1 := [_, _, _]) hk ho.v
  clear HS28 ho hk cM
  obtain ⟨i0, i1⟩ := HS30.out.im2 0 rfl
  obtain ⟨j0, j1⟩ := HS30.out.im2 1 rfl
  have pA := (HS30.out.nthO 1 rfl).px
  have pB := (HS30.out.nthO 4 rfl).px
  go_wp2_with fail
  refine (cE _ _ _ _ _ pA pB).mono ?_
  rintro e w31 ⟨rfl, hb⟩
  have HS33 := hide (HS30.out.next hb)
  clear HS30 hb i0 i1 j0 j1 pA pB 
  have pA := (HS33.out.nthO 2 rfl).px
  have pB := (HS33.out.nthO 5 rfl).px
  go_wp2_with fail
  refine (cF _ _ _ _ _ pA pB).mono ?_
  rintro e w32 ⟨rfl, hb⟩
  have HS34 := hide (HS33.out.next hb)
  clear HS33 hb pA pB
  obtain ⟨i0, i1⟩ := HS34.out.im2 0 rfl
  go_wp2_with fail
  refine (cN _ _ _ _ (HS34.out.nthO 1 rfl).bk.i).mono ?_
  rintro e w35 ⟨rfl, ho, hk⟩
  have HS36 : Hid (St w [(w18.heap.size, [.int .i64 rK, .slice g0 rN gc0]), (w13.heap.size, [.int .i64 rK, .slice p0 rN pc0])] [(some ⟨w22.heap.size, 0, none⟩, w22.heap.size, n0 * 3, (fun k => .int .i64 (f0 k))), (g0, gb0, rN * 4, (fun k => .int .i64 (1 + (k : Int)))), (g1, gb1, rM, (fun k => .int .i64 (t k))), (some ⟨w14.heap.size, 0, none⟩, w14.heap.size, n0 * 3, (fun k => .int .i64 (1 + (k : Int)))), (p0, pb0, rN * 4, (fun k => .int .i64 (s k))), (p1, pb1, rM, (fun k => .int .i64 (t k))), (some ⟨w.heap.size, 0, none⟩, w.heap.size, n0 * 3, (fun k => .int .i64 (f0 k)))] w35) := HS34.out.mark (O1 := [_]) hk ho.v
  clear HS34 ho hk i0 i1
  go_wp2_with fail
  refine (cO _ _ _ _ (HS36.out.nthO 2 rfl).bk.i).mono ?_
  rintro e w37 ⟨rfl, ho, hk, -⟩
  have HS38 : Hid (St w [(w18.heap.size, [.int .i64 rK, .slice g0 rN gc0]), (w13.heap.size, [.int .i64 rK, .slice p0 rN pc0])] [(some ⟨w22.heap.size, 0, none⟩, w22.heap.size, n0 * 3, (fun k => .int .i64 (f0 k))), (g0, gb0, rN * 4, (fun k => .int .i64 (1 + (k : Int)))), (g1, gb1, rM, (fun k => .int .i64 (1 + 4 * (rN : Int) + (k : Int)))), (some ⟨w14.heap.size, 0, none⟩, w14.heap.size, n0 * 3, (fun k => .int .i64 (1 + (k : Int)))), (p0, pb0, rN * 4, (fun k => .int .i64 (s k))), (p1, pb1, rM, (fun k => .int .i64 (t k))), (some ⟨w.heap.size, 0, none⟩, w.heap.size, n0 * 3, (fun k => .int .i64 (f0 k)))] w37) := HS36.out.mark (O1 := [_, _]) hk ho.v
  clear HS36 ho hk
  obtain ⟨i0, i1⟩ := HS38.out.im2 0 rfl
  go_wp2_with fail
  refine (cH _ _ _ _ (HS38.out.nthO 1 rfl).i).mono ?_
  rintro e w39 ⟨rfl, hb⟩
  have HS41 := hide (HS38.out.next hb)
  clear HS38 hb i0 i1
  go_wp2_with fail
  refine (cG _ _ _ _ (HS41.out.nthO 2 rfl).i).mono ?_
  rintro e w40 ⟨rfl, hwz⟩
  have hwy := hwz.symm
  clear hwz
  subst hwy
  go_wp2_with fail
  refine (cT _ (HP0.out.below HS41.out.below)).mono ?_
  rintro e w43 ⟨rfl, hr, hb, -⟩
  have HS44 := hide (HS41.out.own hb hr.v (.inr (Nat.le_refl _)))
  clear hb hr HS41
  have pA := (HS44.out.nthO 0 rfl).px
  go_wp2_with fail
  refine (cI _ _ pA).mono ?_
  rintro e w45 ⟨v0, vc0, vb0, v1, vc1, vb1, rfl, ho, h1, ho2, h2, hd, hb⟩
  have HS47 := hide ((HS44.out.own2 hb ho.v h1 ho2.v h2 hd).box [.int .i64 rK, .slice v0 rN vc0] 29)
  generalize hxw46 : w45.alloc (.cells [.int .i64 rK, .slice v0 rN vc0].toArray 29) = w46 at HS47
  have hyw46 : w45.alloc (.cells #[.int .i64 rK, .slice v0 rN vc0] 29) = w46 := hxw46
  clear hxw46 hb ho h1 ho2 h2 hd pA HS44
  obtain ⟨i0, i1⟩ := HS47.out.im2 0 rfl
  obtain ⟨j0, j1⟩ := HS47.out.im2 2 rfl
  have pA := (HS47.out.nthO 0 rfl).px
  have pB := (HS47.out.nthO 7 rfl).px
  go_wp2_with fail
  refine (cE _ _ _ _ _ pA pB).mono ?_
  rintro e w48 ⟨rfl, hb⟩
  have HS50 := hide (HS47.out.next hb)
  clear HS47 hb i0 i1 j0 j1 pA pB hyw46
  have pA := (HS50.out.nthO 1 rfl).px
  have pB := (HS50.out.nthO 8 rfl).px
  go_wp2_with fail
  refine (cF _ _ _ _ _ pA pB).mono ?_
  rintro e w49 ⟨rfl, hb⟩
  have HS51 := hide (HS50.out.next hb)
  clear HS50 hb pA pB
  obtain ⟨i0, i1⟩ := HS51.out.im2 1 rfl
  go_wp2_with fail
  refine (cH _ _ _ _ (HS51.out.nthO 4 rfl).i).mono ?_
  rintro e w52 ⟨rfl, hb⟩
  have HS54 := hide (HS51.out.next hb)
  clear HS51 hb i0 i1
  go_wp2_with fail
  refine (cG _ _ _ _ (HS54.out.nthO 5 rfl).i).mono ?_
  rintro e w53 ⟨rfl, hwz⟩
  have hwy := hwz.symm
  clear hwz
  subst hwy
  have HB := hide HS54.out.below
  clear HS54
  go_wp2_with fail
  go_ret
  exact ⟨rfl, HB.out⟩

end Go.Proofs.Ytefgpdfbgkhncaa

/- Missed: the program, whole. -/
import Derived.Test.YtocmbdckjdggiaaMdi
namespace Go.Proofs.Ytocmbdckjdggiaa
open Go.RowKit

set_option maxRecDepth 100000 in
set_option maxHeartbeats 8000000 in
theorem implMissed_any (a : Option Addr) (m cap : Nat) (f : Nat → Int) (hl : m ≤ 1048576) (a' : Option Addr) (p cap' : Nat) (g : Nat → Int) (hl' : p ≤ 1048576) (a2 : Option Addr) (n cap2 : Nat) (gl : Nat → Int) (hn : n ≤ 1048576) (w : World) (h : Px a m f w) (h' : Px a' p g w) (h2 : Px a2 (n * 4) gl w) :
    Calls Try.prog 45 #[.slice a m cap, .slice a' p cap', .slice a2 n cap2] w (LsR (mzN m p n f g gl) (fun q => (msL f g gl m n).getD q 0) w) := by
  have c0 := areDoses_any a m cap f hl a' p cap' hl' w h
  have c1 := areGoals_any a2 n cap2 gl hn w h2
  have HP := hide h
  have HP' := hide h'
  have HP2 := hide h2
  clear h h' h2
  unfold mzN mzB
  cases hq : dsB m p f
  · rw [hq] at c0
    simp only [Bool.false_and, Bool.false_eq_true, if_false]
    clear hq c1 HP HP' HP2
    go_enter Try.func45, Try.ntmps45
    go_wp2_with fail
    refine c0.mono ?_
    rintro e w1 ⟨rfl, rfl⟩
    go_wp2_with fail
    go_ret
    exact ⟨_, _, 0, rfl, .inl rfl, .inl rfl, Below.refl _ _⟩
  rw [hq] at c0
  cases hq2 : gsB n gl
  · rw [hq2] at c1
    simp only [Bool.and_false, Bool.false_eq_true, if_false]
    clear hq hq2 HP HP' HP2
    go_enter Try.func45, Try.ntmps45
    go_wp2_with fail
    refine c0.mono ?_
    rintro e w1 ⟨rfl, rfl⟩
    go_wp2_with fail
    refine c1.mono ?_
    rintro e w2 ⟨rfl, hb⟩
    have HB := hide hb
    clear hb c0 c1
    go_wp2_with fail
    go_ret
    exact ⟨_, _, 0, rfl, .inl rfl, .inl rfl, HB.out⟩
  rw [hq2] at c1
  simp only [Bool.and_self, if_true]
  obtain ⟨rfl, hm, -⟩ := dsB_parts hq
  obtain ⟨hn6, hG⟩ := gsB_parts hq2
  have HG := hide hG
  have cD := fun o w' h h' => dosesOf_any a p cap f hl a' cap' g o w' h h'
  clear hq hq2 hG
  go_enter Try.func45, Try.ntmps45
  go_wp2_with fail
  refine c0.mono ?_
  rintro e w1 ⟨rfl, rfl⟩
  go_wp2_with fail
  refine c1.mono ?_
  rintro e w2 ⟨rfl, hb0⟩
  clear c0 c1
  go_wp2_with fail
  go_loopw [7, 8, 9, 21] (fun v _ _ i wr => ∃ k : Nat, k ≤ n ∧ i = .int .i64 k ∧ wr.ownsRow w1.heap.size 2 1 v (msL f g gl p k).length (ints (msL f g gl p k)) ∧ Below w1.heap.size w1 wr) (fun _ _ _ i _ => n - (intOf i).toNat)
  case atStart => exact ⟨0, by omega, rfl, World.ownsRow_nil _ _ _ _, hb0⟩
  case round =>
    obtain ⟨k, hk, rfl, ho, hb⟩ := hrel
    clear hb0
    by_cases hlt : k < n
    · obtain ⟨b, off, rfl, hbl, z0, z1, z2, z3⟩ := (HP2.out.below hb).atGoal hlt
      obtain ⟨wa, hwa⟩ : ∃ wa, wa = wr.alloc (.cells #[.int .i64 (gl (k * 4)), .int .i64 (gl (k * 4 + 1)), .int .i64 (gl (k * 4 + 2)), .int .i64 (gl (k * 4 + 3))] 54) := ⟨_, rfl⟩
      have hSa : St w1 [(wr.heap.size, [.int .i64 (gl (k * 4)), .int .i64 (gl (k * 4 + 1)), .int .i64 (gl (k * 4 + 2)), .int .i64 (gl (k * 4 + 3))])] [] wa := by rw [hwa]; exact ((St.start w1).next hb).box [_, _, _, _] _
      have HOa : Hid (wa.ownsRow w1.heap.size 2 1 u7 (msL f g gl p k).length (ints (msL f g gl p k))) := by rw [hwa]; exact ho.alloc _
      have HSa := hide hSa.drew
      have SKa := hide (show _ ∧ _ ∧ _ ∧ _ from hSa.drew.im4 0 rfl)
      have HPa := hide (HP.out.below hSa.drew.below)
      have HPa' := hide (HP'.out.below hSa.drew.below)
      have hMM := mis_met (a := hiA f g (gl (k * 4 + 1)) (gl (k * 4 + 2)) p) (HG.out k hlt) (hiB_bd f g (gl (k * 4 + 1)) (gl (k * 4 + 2)) p).1
      have HMM : Hid (msB f g gl p k = !metB (gl (k * 4)) (gl (k * 4 + 3)) (hiA f g (gl (k * 4 + 1)) (gl (k * 4 + 2)) p) (hiB f g (gl (k * 4 + 1)) (gl (k * 4 + 2)) p)) := hMM
      have HE1 := hide (hiA_eq f g (gl (k * 4 + 1)) (gl (k * 4 + 2)) p)
      have HE2 := hide (hiB_eq f g (gl (k * 4 + 1)) (gl (k * 4 + 2)) p)
      have HLd := hide (doL_len f g (gl (k * 4 + 1)) p)
      have hwa' := hwa.symm
      have hml := msL_len f g gl p k
      clear hMM hSa hwa ho hb HP HP' HP2 HG hbl
      generalize gl (k * 4) = G0 at *
      generalize gl (k * 4 + 1) = G1 at *
      generalize gl (k * 4 + 2) = G2 at *
      generalize gl (k * 4 + 3) = G3 at *
      have cM := fun x y w' (hx : Px x (doL f g G1 p).length (fun q => (doL f g G1 p).getD q 0) w') => isMet_any G0 G1 G2 G3 x _ y _ (Nat.le_trans HLd.out hl) w' hx
      simp only [HE1.out, HE2.out] at cM
      generalize metB G0 G3 (hiA f g G1 G2 p) (hiB f g G1 G2 p) = r at *
      clear HE1 HE2 HLd
      go_upto_region 7 with fail
      generalize wr.heap.size = C at *
      go_region_held (fun (w' : World) => w'.cell? ⟨C, 0, none⟩ = some (.int .i64 G0) ∧ w'.cell? ⟨C, 1, none⟩ = some (.int .i64 G1) ∧ w'.cell? ⟨C, 2, none⟩ = some (.int .i64 G2) ∧ w'.cell? ⟨C, 3, none⟩ = some (.int .i64 G3))
        (first | exact SKa.out | exact SKb.out | exact SKc.out)
        ((first
          | (go_at_call 81; refine (cD _ _ HPa.out HPa'.out).mono ?_; rintro e w5 ⟨v5, rfl, ho5, hb5⟩; have HS5 := hide (HSa.out.next hb5); have SKb := hide (show _ ∧ _ ∧ _ ∧ _ from HS5.out.im4 0 rfl); obtain ⟨x5, y5, t5, hv5, hx5, -, -⟩ := LsR.ofL ho5 hb5; cases hv5; have HX5 := hide hx5.px; have HO5 := hide (ownsRow_below' HOa.out.drew hb5); clear ho5 hb5 hx5)
          | (go_at_call 80; refine (cM _ _ _ HX5.out).mono ?_; rintro e w6 ⟨rfl, hb6⟩; have HS6 := hide (HS5.out.next hb6); have SKc := hide (show _ ∧ _ ∧ _ ∧ _ from HS6.out.im4 0 rfl); have HO6 := hide (ownsRow_below' HO5.out hb6); clear hb6)))
      clear SKa SKb SKc HSa HOa HO5 HX5 HS5 HPa HPa' cD z0 z1 z2 z3 hwa' cM
      cases r
      · have HD : Hid (msL f g gl p (k + 1) = msL f g gl p k ++ [(k : Int)]) := msL_pos HMM.out
        have HNL : Hid ((msL f g gl p k).length ≤ 1048576) := by show _ ≤ _; omega
        have HB6 := hide HS6.out.below
        have HZ6 := hide HS6.out.below.size
        clear HMM hml HS6
        go_wp2_with (refine growL _ rfl _ _ rfl w1.heap.size _ _ (msL f g gl p k) rfl w1 HO6.out HB6.out HZ6.out (k : Int) rfl HNL.out ?_)
        intro v' w7 ho1 hb1 hs1
        have HO1 : Hid (w7.ownsRow w1.heap.size 2 1 v' (msL f g gl p (k + 1)).length (ints (msL f g gl p (k + 1)))) := by
          rw [HD.out, List.length_append, List.length_singleton]; exact ho1
        have HB1 := hide hb1
        clear ho1 hb1 HO6 HB6 hs1 HD HZ6 HNL
        go_wp2_with fail
        exact ⟨⟨k + 1, by omega, rfl, HO1.out, HB1.out⟩, by simp [intOf]; omega⟩
      · have HO1 : Hid (w6.ownsRow w1.heap.size 2 1 u7 (msL f g gl p (k + 1)).length (ints (msL f g gl p (k + 1)))) := by rw [msL_neg HMM.out]; exact HO6.out
        have HB6 := hide HS6.out.below
        clear HMM hml HS6 HO6
        go_wp2_with fail
        exact ⟨⟨k + 1, by omega, rfl, HO1.out, HB6.out⟩, by simp [intOf]; omega⟩
    · obtain rfl : k = n := by omega
      have HE := hide (LsR.ofL ho hb)
      clear ho hb HP HP' HP2 HG cD
      go_wp2_with fail
      go_ret
      exact HE.out

end Go.Proofs.Ytocmbdckjdggiaa

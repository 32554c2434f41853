/- The law on Refutes, walked. -/
import Derived.Test.YtocmbdckjdggiaaRfs
import Derived.Test.YtocmbdckjdggiaaRfj
namespace Go.Proofs.Ytocmbdckjdggiaa
open Go.RowKit

set_option maxRecDepth 100000 in
set_option maxHeartbeats 4000000 in
theorem fnExactRefutes_walk (a : Option Addr) (m cap : Nat) (ad : Nat → Option Addr) (ln cp : Nat → Nat) (F : Nat → Nat → Int) (Bv : Nat → Int) (hm : m ≤ maxLen) (hl : ∀ i, ln i ≤ maxLen) (a' : Option Addr) (n cap' : Nat) (x : Nat → Int) (hn : n ≤ maxLen) (w : World) (h : PxB a m ad ln cp F Bv w) (h' : Px a' n x w) :
    Calls Try.prog 12 #[.slice a m cap, .slice a' n cap'] w fun e w' => e = .returned (.bool true) ∧ Below w.heap.size w w' := by
  have cz := szBoundS_any a m cap ad ln cp F Bv hm hl w h
  have HP := hide h
  have HP' := hide h'
  unfold maxLen at hm hn
  clear h h'
  by_cases hbn : (1048576 : Int) < n
  · clear HP HP' cz hl
    go_enter Try.func12, Try.ntmps12
    go_wp2_with fail
    go_ret
    exact ⟨rfl, Below.refl _ _⟩
  have hn' : n ≤ 1048576 := by omega
  go_enter Try.func12, Try.ntmps12
  go_wp2_with fail
  refine cz.mono ?_
  rintro e w1 ⟨hb1, v, rfl, hv⟩
  have HS1 := hide ((St.start w).next hb1)
  clear cz hb1
  rcases hv with hv | ⟨hv0, hv⟩
  · clear HP HP'
    go_wp2_with fail
    go_ret
    exact ⟨rfl, HS1.out.below⟩
  have hv1 : ¬ v < 0 := by omega
  have hm' : m ≤ 1048576 := by omega
  have HL : Hid (∀ i, i < m → ln i ≤ 1048576) := fun i hi => by have := sumN_le (ln := ln) hi; omega
  have cT := fun w' h => toBoundS_any a m cap ad ln cp F Bv hm' HL.out w' h
  have cU := fun w' h => toInts_any a' n cap' x hn' w' h
  have cS := fun a0 (B0 : Nat → Nat) a1 w' h h' => specRefutes_any a0 m m (fun i => some ⟨B0 i, 0, none⟩) ln ln F Bv hm' HL.out a1 n n x hn' w' h h'
  have cI := fun a0 (B0 : Nat → Nat) a1 w' h h' => implRefutes_any a0 m m (fun i => some ⟨B0 i, 0, none⟩) ln ln F Bv hm' HL.out a1 n n x hn' w' h h'
  have cE := fun a0 a1 (B0 B1 : Nat → Nat) w' h h' => eqBoundS_any a0 a1 m m m (fun i => some ⟨B0 i, 0, none⟩) (fun i => some ⟨B1 i, 0, none⟩) ln ln ln F Bv hm' HL.out w' h h'
  have cF := fun a0 a1 w' h h' => eqInts_b a0 a1 n n n x hn' w' h h'
  generalize refB m ln F Bv n x = rB at *
  have qb : (rB != rB) = false := by simp
  clear hv hv0 hm hn hl
  go_wp2_with fail
  refine (cT _ (HP.out.below HS1.out.below)).mono ?_
  rintro e w2 ⟨B2, rfl, hp, hb⟩
  have HS2 := hide (HS1.out.next hb)
  have HA := hide hp
  clear hp hb HS1
  go_wp2_with fail
  refine (cU _ (HP'.out.below HS2.out.below)).mono ?_
  rintro e w3 ⟨rfl, hr, hb, -⟩
  have HS3 := hide (HS2.out.next hb)
  have HA3 := hide (HA.out.below hb)
  have HX3 := hide hr.px
  clear hr hb HS2 HA
  go_wp2_with fail
  refine (cS _ _ _ _ HA3.out HX3.out).mono ?_
  rintro e w4 ⟨rfl, hb⟩
  have HS4 := hide (HS3.out.next hb)
  clear hb HS3 HA3 HX3 cS
  go_wp2_with fail
  refine (cT _ (HP.out.below HS4.out.below)).mono ?_
  rintro e w5 ⟨B5, rfl, hp, hb⟩
  have HS5 := hide (HS4.out.next hb)
  have HA := hide hp
  clear hp hb HS4
  go_wp2_with fail
  refine (cU _ (HP'.out.below HS5.out.below)).mono ?_
  rintro e w6 ⟨rfl, hr, hb, -⟩
  have HS6 := hide (HS5.out.next hb)
  have HA6 := hide (HA.out.below hb)
  have HX6 := hide hr.px
  clear hr hb HS5 HA
  go_wp2_with fail
  refine (cI _ _ _ _ HA6.out HX6.out).mono ?_
  rintro e w7 ⟨rfl, hb⟩
  have HS7 := hide (HS6.out.next hb)
  have HA7 := hide (HA6.out.below hb)
  have HX7 := hide (HX6.out.below hb)
  clear hb HS6 HA6 HX6 cI
  go_wp2_with fail
  refine (cT _ (HP.out.below HS7.out.below)).mono ?_
  rintro e w8 ⟨B8, rfl, hp, hb⟩
  have HS8 := hide (HS7.out.next hb)
  have HA8 := hide (HA7.out.below hb)
  have HX8 := hide (HX7.out.below hb)
  have HC8 := hide hp
  clear hp hb HS7 HA7 HX7
  go_wp2_with fail
  refine (cE _ _ _ _ _ HA8.out HC8.out).mono ?_
  rintro e w9 ⟨rfl, hb⟩
  have HS9 := hide (HS8.out.next hb)
  have HX9 := hide (HX8.out.below hb)
  clear hb HS8 HA8 HX8 HC8 cE
  go_wp2_with fail
  refine (cU _ (HP'.out.below HS9.out.below)).mono ?_
  rintro e w10 ⟨rfl, hr, hb, -⟩
  have HS10 := hide (HS9.out.next hb)
  have HX10 := hide (HX9.out.below hb)
  have HD10 := hide hr.px
  clear hr hb HS9 HX9
  go_wp2_with fail
  refine (cF _ _ _ HX10.out HD10.out).mono ?_
  rintro e w11 ⟨rfl, hb⟩
  have HS11 := hide (HS10.out.next hb)
  clear hb HS10 HX10 HD10 cF
  go_wp2_with fail
  go_ret
  exact ⟨rfl, HS11.out.below⟩

end Go.Proofs.Ytocmbdckjdggiaa

/- A number is put into a list in order. -/
import Derived.Test.YtocmbdckjdggiaaSln
namespace Go.Proofs.Ytocmbdckjdggiaa
open Go.RowKit

theorem mid_pre (L : List Int) (g : Int) {i j : Nat} (hj : j < i) (hi : i ≤ L.length) : (L.take i ++ g :: L.drop i).getD j 0 = L.getD j 0 := by
  have h1 : j < (L.take i).length := by simp; omega
  simp only [List.getD]
  rw [List.getElem?_append_left h1, List.getElem?_take_of_lt hj]
theorem mid_set (L : List Int) (g z : Int) {i : Nat} (hi : i ≤ L.length) : (L.take i ++ g :: L.drop i).set i z = L.take i ++ z :: L.drop i := by
  have h1 : (L.take i).length = i := by simp; omega
  rw [List.set_append_right _ _ (by omega), h1]
  simp
theorem mid_back (L : List Int) {i : Nat} (h0 : 0 < i) (hi : i ≤ L.length) : L.take i ++ L.getD (i - 1) 0 :: L.drop i = L.take (i - 1) ++ L.getD (i - 1) 0 :: L.drop (i - 1) := by
  have h1 : i - 1 < L.length := by omega
  have e : L.getD (i - 1) 0 = L[i - 1] := by simp [List.getD, List.getElem?_eq_getElem h1]
  rw [e]
  have e2 : L.drop (i - 1) = L[i - 1] :: L.drop i := by
    rw [List.drop_eq_getElem_cons h1]
    congr 2
    omega
  have e3 : L.take i = L.take (i - 1) ++ [L[i - 1]] := by
    have := List.take_succ_eq_append_getElem h1
    rw [show i - 1 + 1 = i by omega] at this
    exact this
  rw [e2, e3, List.append_assoc]
  rfl
theorem mid_start (L : List Int) (x : Int) : L.take L.length ++ x :: L.drop L.length = L ++ [x] := by simp

set_option maxRecDepth 100000 in
set_option maxHeartbeats 2000000 in
theorem l8Put_any (B : Nat) (v : Value) (n : Nat) (L : List Int) (x : Int) (w : World) (hown : w.ownsRow B 2 1 v n (ints L)) (hL : L.length = n) (hn : n ≤ 100000) (hB : B ≤ w.heap.size) :
    Calls Try.prog 83 #[v, .int .i64 x] w fun e w' => ∃ v', e = .returned v' ∧ ∃ i, i ≤ n ∧ (i = 0 ∨ L.getD (i - 1) 0 ≤ x) ∧ (∀ y ∈ L.drop i, x < y) ∧ w'.ownsRow B 2 1 v' (n + 1) (ints (putAt L i x)) ∧ Below B w w' := by
  have HO := hide hown
  have HL := hide hL
  have HN : Hid (n ≤ 1048576) := by show _ ≤ _; omega
  have HB0 := hide (Below.refl B w)
  have HBs := hide hB
  clear hown hL hB
  go_enter Try.func83, Try.ntmps83
  go_wp2_with (refine growL _ rfl _ _ rfl B _ n L rfl w HO.out HB0.out HBs.out x rfl HN.out ?_)
  intro v' w1 ho1 hb1 hs1
  obtain ⟨b, cp, rfl, hBb, _⟩ := own_partsL ho1 (by omega)
  have HO1 := hide ho1
  have HB1 := hide hb1
  clear HO HB0 ho1 hb1 hs1
  go_wp2_with fail
  go_loopw [6] (fun s wr => ∃ (i : Nat) (g : Int), i ≤ n ∧ s = .int .i64 i ∧ wr.ownsRow B 2 1 (.slice (some ⟨b, 0, none⟩) (n + 1) cp) (n + 1) (ints (L.take i ++ g :: L.drop i)) ∧ (∀ y ∈ L.drop i, x < y) ∧ Below B w wr) (fun s _ => (intOf s).toNat)
  case atStart =>
    refine ⟨n, x, by omega, rfl, ?_, ?_, HB1.out⟩
    · rw [← HL.out, mid_start, HL.out]; exact HO1.out
    · rw [← HL.out]; simp
  case round =>
    obtain ⟨i, g, hi, rfl, ho, hgt, hb⟩ := hrel
    clear HO1 HB1
    obtain ⟨b', cp', heq, _, hc⟩ := own_partsL ho (by omega)
    cases heq
    have HO := hide ho
    have HG := hide hgt
    have HB := hide hb
    clear ho hgt hb
    by_cases h0 : i = 0
    · subst h0
      have c0 := hc 0 (by omega)
      obtain ⟨d0, f0⟩ := c0
      have HS := hide (own_setL HO.out 0 x)
      rw [mid_set L g x (by omega)] at HS
      have HBS := hide (HB.out.setCell (p := ⟨b, 0, none⟩) hBb (.int .i64 x))
      have hng : ¬ (0 : Int) < ((0 : Nat) : Int) := by omega
      clear HO HB hc
      go_wp2_with fail
      go_ret
      exact ⟨_, rfl, 0, by omega, .inl rfl, HG.out, HS.out, HBS.out⟩
    · obtain ⟨d1, f1⟩ := hc (i - 1) (by omega)
      obtain ⟨d0, f0⟩ := hc i (by omega)
      rw [mid_pre L g (show i - 1 < i by omega) (by rw [HL.out]; exact hi)] at d1
      have hpos : (0 : Int) < (i : Int) := by omega
      have hi1 : (i : Int) - 1 = ((i - 1 : Nat) : Int) := by omega
      have hil : ((i - 1 : Nat) : Int) < ((n + 1 : Nat) : Int) := by omega
      have hil0 : (i : Int) < ((n + 1 : Nat) : Int) := by omega
      have HM : Hid (L.take i ++ L.getD (i - 1) 0 :: L.drop i = L.take (i - 1) ++ L.getD (i - 1) 0 :: L.drop (i - 1)) := mid_back L (by omega) (by rw [HL.out]; exact hi)
      have HD : Hid (x < L.getD (i - 1) 0 → ∀ y ∈ L.drop (i - 1), x < y) := fun hlt y hy => by
        have h1 : i - 1 < L.length := by rw [HL.out]; omega
        have e2 : L.drop (i - 1) = L.getD (i - 1) 0 :: L.drop i := by
          rw [List.drop_eq_getElem_cons h1, show i - 1 + 1 = i by omega]
          simp [List.getD, List.getElem?_eq_getElem h1]
        rw [e2] at hy
        rcases List.mem_cons.1 hy with rfl | hy
        · exact hlt
        · exact HG.out y hy
      have HLe : Hid (¬ x < L.getD (i - 1) 0 → L.getD (i - 1) 0 ≤ x) := fun h => by omega
      have HS1 := hide (own_setL HO.out i (L.getD (i - 1) 0))
      rw [mid_set L g _ (by rw [HL.out]; exact hi), HM.out] at HS1
      have HS2 := hide (own_setL HO.out i x)
      rw [mid_set L g _ (by rw [HL.out]; exact hi)] at HS2
      have HB1 := hide (HB.out.setCell (p := ⟨b, i, none⟩) hBb (.int .i64 (L.getD (i - 1) 0)))
      have HB2 := hide (HB.out.setCell (p := ⟨b, i, none⟩) hBb (.int .i64 x))
      clear hc HO HB HM
      generalize hz : L.getD (i - 1) 0 = z at *
      have HZ := hide hz
      clear hz
      obtain ⟨i1, hi1e⟩ : ∃ i1, i - 1 = i1 := ⟨_, rfl⟩
      rw [hi1e] at d1 hi1 hil HS1 HD
      have HI1 := hide hi1e
      clear hi1e
      by_cases hgt : x < z
      · have HD2 := hide (HD.out hgt)
        clear HD HLe HS2 HB2 HG
        go_wp2_with fail
        exact ⟨⟨i1, z, by have := HI1.out; omega, by first | rfl | (congr 1; omega), HS1.out, HD2.out, HB1.out⟩, by simp [intOf]; have := HI1.out; omega⟩
      · have HL2 := hide (HLe.out hgt)
        clear HD HLe HS1 HB1
        go_wp2_with fail
        go_ret
        exact ⟨_, rfl, i, hi, .inr (by show L.getD (i - 1) 0 ≤ x; rw [HZ.out]; exact HL2.out), HG.out, HS2.out, HB2.out⟩

end Go.Proofs.Ytocmbdckjdggiaa

/- Leaves: the program, whole. -/
import Derived.Test.YtfpeobkncileiaaLga
namespace Go.Proofs.Ytfpeobkncileiaa
open Go.RowKit

/-- the first k openings, flat -/
def opL (U D : List Int) : Nat → List Int
  | 0 => []
  | k + 1 => opL U D k ++ [U.getD k 0, D.getD k 0, 1]
theorem opL_len (U D : List Int) : ∀ k, (opL U D k).length = k * 3
  | 0 => rfl
  | k + 1 => by unfold opL; rw [List.length_append, opL_len U D k]; simp; omega
theorem opL_at (U D : List Int) : ∀ m k, k < m → (opL U D m).getD (k * 3) 0 = U.getD k 0 ∧ (opL U D m).getD (k * 3 + 1) 0 = D.getD k 0 ∧ (opL U D m).getD (k * 3 + 2) 0 = 1
  | m + 1, k, hk => by
    have hl := opL_len U D m
    show (opL U D m ++ [U.getD m 0, D.getD m 0, 1]).getD (k * 3) 0 = _ ∧ (opL U D m ++ [U.getD m 0, D.getD m 0, 1]).getD (k * 3 + 1) 0 = _ ∧ (opL U D m ++ [U.getD m 0, D.getD m 0, 1]).getD (k * 3 + 2) 0 = _
    by_cases e : k < m
    · have ih := opL_at U D m k e
      have h1 : ∀ q, q < m * 3 → (opL U D m ++ [U.getD m 0, D.getD m 0, 1]).getD q 0 = (opL U D m).getD q 0 := fun q hq => by
        simp only [List.getD]
        rw [List.getElem?_append_left (by omega)]
      rw [h1 _ (by omega), h1 _ (by omega), h1 _ (by omega)]
      exact ih
    · obtain rfl : k = m := by omega
      have h1 : ∀ q, (opL U D k ++ [U.getD k 0, D.getD k 0, 1]).getD (k * 3 + q) 0 = [U.getD k 0, D.getD k 0, 1].getD q 0 := fun q => by
        simp only [List.getD]
        rw [List.getElem?_append_right (by omega), hl, show k * 3 + q - k * 3 = q by omega]
      have h2 := h1 0
      rw [Nat.add_zero] at h2
      exact ⟨h2, h1 1, h1 2⟩

set_option maxRecDepth 100000 in
set_option maxHeartbeats 8000000 in
theorem implLeaves_any (a : Option Addr) (n cap : Nat) (f : Nat → Int) (hl : n ≤ 1048576) (w : World) (h : Px a n f w) :
    Calls Try.prog 6 #[.slice a n cap] w (LfR (lvN n f) (fun q => (lvF n f).getD q 0) w) := by
  have c0 := isRow_any a n cap f hl w h
  unfold lvN
  cases hq : rlB n f
  · rw [hq] at c0
    simp only [Bool.false_eq_true, if_false]
    clear hq h
    go_enter Try.func6, Try.ntmps6
    go_wp2_with fail
    refine c0.mono ?_
    rintro e w1 ⟨rfl, rfl⟩
    go_wp2_with fail
    go_ret
    exact ⟨_, _, 0, rfl, .inl rfl, .inl rfl, Below.refl _ _⟩
  rw [hq] at c0
  simp only [if_true]
  obtain ⟨hn, hf⟩ := rlB_parts hq
  have cS := stepsOf_any a n cap f hn hf w h
  have HE : Hid (∀ v w', w'.ownsRow w.heap.size 42 3 v (gtc (lvU n f) (lvD n f) (lvU n f).length) (ints (gat (lvU n f) (lvD n f) (lvU n f).length)) → Below w.heap.size w w' → LfR (lvC n f) (fun q => (lvF n f).getD q 0) w (.returned v) w') := fun v w' h1 h2 => LfR.ofL h1 h2
  have HLl := hide (lv_len n f)
  have HUb : Hid ((lvU n f).length ≤ 65000) := by show _ ≤ _; have := up_bd (rr_bd (n := n) hf) (n + 1); unfold lvU; omega
  generalize (fun q => (lvF n f).getD q 0) = S at *
  generalize lvC n f = Rn at *
  generalize lvU n f = U at *
  generalize lvD n f = D at *
  clear hq h hf
  go_enter Try.func6, Try.ntmps6
  go_wp2_with fail
  refine c0.mono ?_
  rintro e w1 ⟨rfl, rfl⟩
  clear c0
  go_wp2_with fail
  refine cS.mono ?_
  rintro e w2 ⟨v1, v2, rfl, h4, h5, -, hb⟩
  obtain ⟨x4, y4, rfl⟩ : ∃ x y, v1 = .slice x U.length y := by
    rcases h4.2 with ⟨hv, h0⟩ | ⟨g', c', cur, hv, _⟩
    · exact ⟨none, 0, by rw [hv, h0]⟩
    · exact ⟨_, _, hv⟩
  obtain ⟨x5, y5, rfl⟩ : ∃ x y, v2 = .slice x D.length y := by
    rcases h5.2 with ⟨hv, h0⟩ | ⟨g', c', cur, hv, _⟩
    · exact ⟨none, 0, by rw [hv, h0]⟩
    · exact ⟨_, _, hv⟩
  have H4 := hide h4
  have H5 := hide h5
  have HB := hide hb
  clear cS h4 h5 hb
  go_wp2_with fail
  go_loopw [5, 6, 7, 18] (fun v3 _ _ i wr => ∃ j : Nat, j ≤ U.length ∧ i = .int .i64 j ∧ wr.ownsRow w2.heap.size 42 3 v3 j (ints (opL U D j)) ∧ Below w2.heap.size w2 wr) (fun _ _ _ i _ => U.length - (intOf i).toNat)
  case atStart => exact ⟨0, by omega, rfl, World.ownsRow_nil _ _ _ _, Below.refl _ _⟩
  case round =>
    obtain ⟨j, hj, rfl, ho, hb⟩ := hrel
    have hlen := HLl.out
    by_cases hlt : j < U.length
    · obtain ⟨b4, cp4, he4, -, hc4⟩ := own_partsL (ownsRow_below' H4.out hb) (by omega)
      cases he4
      obtain ⟨b5, cp5, he5, -, hc5⟩ := own_partsL (ownsRow_below' H5.out hb) (by omega)
      cases he5
      have c4 := (hc4 j hlt).1
      have c5 := (hc5 j (by omega)).1
      have hjD : (j : Int) < (D.length : Int) := by omega
      have HO := hide ho
      have HBr := hide hb
      have HZr := hide hb.size
      have hUb := HUb.out
      have HNL : Hid (j ≤ 1048576) := by show _ ≤ _; omega
      have HY : Hid (opL U D (j + 1) = opL U D j ++ [U.getD j 0, D.getD j 0, 1]) := rfl
      obtain ⟨X, hX⟩ : ∃ X, U.getD j 0 = X := ⟨_, rfl⟩
      obtain ⟨Y, hY⟩ : ∃ Y, D.getD j 0 = Y := ⟨_, rfl⟩
      rw [hX] at c4 HY
      rw [hY] at c5 HY
      clear hX hY hc4 hc5 hlen ho hb H4 H5 HE HB HLl HUb
      go_upto_region 8 with fail
      go_wp2_with (refine growLf _ rfl _ _ rfl w2.heap.size _ _ (opL U D j) rfl w2 HO.out HBr.out HZr.out X Y 1 rfl HNL.out ?_)
      intro v' w7 ho1 hb1 hs1 hk1 hm1
      have HO1 : Hid (w7.ownsRow w2.heap.size 42 3 v' (j + 1) (ints (opL U D (j + 1)))) := by
        rw [HY.out]; exact ho1
      have HB1 := hide hb1
      clear ho1 hb1 hs1 hk1 hm1 HO HBr HZr HNL HY c4 c5
      go_wp2_with fail
      exact ⟨⟨j + 1, by omega, rfl, HO1.out, HB1.out⟩, by simp [intOf]; omega⟩
    · obtain rfl : j = U.length := by omega
      obtain ⟨x3, y3, rfl⟩ : ∃ x y, u5 = .slice x U.length y := by
        rcases ho.2 with ⟨hv, h0⟩ | ⟨g', c', cur, hv, _⟩
        · exact ⟨none, 0, by rw [hv, h0]⟩
        · exact ⟨_, _, hv⟩
      have hpx : Px x3 (U.length * 3) (fun q => (opL U D U.length).getD q 0) wr := by
        by_cases h0 : 0 < U.length
        · obtain ⟨b3, c3, he, -, hc⟩ := own_partsF ho h0
          cases he
          exact .inr ⟨b3, 0, rfl, fun k hk => by rw [Nat.zero_add]; exact (hc k hk).1⟩
        · exact .inl (by omega)
      have cG := gatherLeaves_any x3 U.length y3 (fun q => (opL U D U.length).getD q 0) U D HUb.out (fun k hk => opL_at U D U.length k hk) wr hpx
      have HBr := hide (bnext HB.out (Nat.le_refl _) hb)
      clear hpx ho hb H4 H5 HLl HUb HB hlen
      go_wp2_with fail
      refine cG.mono ?_
      rintro e w8 ⟨v, rfl, ho, hb⟩
      have HR := hide (HE.out _ _ (owns_mono ho HBr.out.size) (bnext HBr.out (Nat.le_refl _) hb))
      clear cG ho hb HE HBr
      go_wp2_with fail
      go_ret
      exact HR.out

end Go.Proofs.Ytfpeobkncileiaa

/- The law on names, walked. -/
import Derived.Test.YteadhhhhnihoaaaDnm
import Derived.Test.YteadhhhhnihoaaaNrt
import Derived.Test.YteadhhhhnihoaaaNmi
import Derived.Test.YteadhhhhnihoaaaNms
import Derived.Test.YteadhhhhnihoaaaSgk
import Derived.Test.YteadhhhhnihoaaaSgs
namespace Go.Proofs.Yteadhhhhnihoaaa
open Go.RowKit

theorem sameInts_any (a a' : Option Addr) (len cap cap' : Nat) (f : Nat → Int) (hl : len ≤ 1048576) (w : World) (h : Px a len f w) (h' : Px a' len f w) :
    Calls Try.prog 12 #[.slice a len cap, .slice a' len cap'] w fun e w' => e = .returned (.bool true) ∧ ∃ n, w' = w.drewN n := by
  have HP : Hid (Px a len f w) := h
  have HP' : Hid (Px a' len f w) := h'
  clear h h'
  go_enter Try.func12, Try.ntmps12
  go_wp2
  go_loopw [5] (fun i wr => ∃ k n : Nat, k ≤ len ∧ i = .int .i64 k ∧ wr = w.drewN n) (fun i _ => len - (intOf i).toNat)
  case atStart => exact ⟨0, 0, by omega, rfl, rfl⟩
  case round =>
    obtain ⟨k, n, hk, rfl, rfl⟩ := hrel
    by_cases hlt : k < len
    · obtain ⟨b, off, rfl, hc⟩ : ∃ b off, a = some ⟨b, off, none⟩ ∧ ∀ k, k < len → w.cell? ⟨b, off + k, none⟩ = some (.int .i64 (f k)) := by
        rcases HP.out with h | h
        · omega
        · exact h
      obtain ⟨b', off', rfl, hc'⟩ : ∃ b off, a' = some ⟨b, off, none⟩ ∧ ∀ k, k < len → w.cell? ⟨b, off + k, none⟩ = some (.int .i64 (f k)) := by
        rcases HP'.out with h | h
        · omega
        · exact h
      have hz := hc k hlt
      have hz' := hc' k hlt
      clear hc HP hc' HP'
      go_wp2
      go_quiet (fail)
      go_wp2
      go_roundw
      case rel => exact ⟨k + 1, _, by omega, by go_num, rfl⟩
      case measure => simp [intOf]; omega
    · go_wp2
      go_ret
      exact ⟨rfl, _, rfl⟩

theorem own_pxL {w : World} {B n : Nat} {v : Value} {L : List Int} (h : w.ownsRow B 2 1 v n (ints L)) : ∃ a cap, v = .slice a n cap ∧ Px a n (fun q => L.getD q 0) w := by
  by_cases hn : 0 < n
  · obtain ⟨a, cap, b, hv, ho, _⟩ := ow_of_some h hn
    rw [Nat.mul_one] at ho
    exact ⟨a, cap, hv, ho.px⟩
  · obtain rfl : n = 0 := by omega
    obtain ⟨hlen, hv | ⟨b, cap, cur, hv, _⟩⟩ := h
    · exact ⟨none, 0, hv.1, .inl rfl⟩
    · exact ⟨_, cap, hv, .inl rfl⟩
theorem fl_getD (L : List Int) : fl (fun q => L.getD q 0) L.length = L := by
  apply List.ext_getElem?
  intro i
  by_cases h : i < L.length
  · have h1 := fl_at (fun q => L.getD q 0) L.length i h
    have h2 : i < (fl (fun q => L.getD q 0) L.length).length := by rw [fl_len]; exact h
    have g1 : (fl (fun q => L.getD q 0) L.length)[i]'h2 = (fl (fun q => L.getD q 0) L.length).getD i 0 := by rw [List.getD_eq_getElem?_getD, List.getElem?_eq_getElem h2]; rfl
    have g2 : L[i]'h = L.getD i 0 := by rw [List.getD_eq_getElem?_getD, List.getElem?_eq_getElem h]; rfl
    rw [List.getElem?_eq_getElem h, List.getElem?_eq_getElem h2, g1, g2, h1]
  · rw [List.getElem?_eq_none (by rw [fl_len]; omega), List.getElem?_eq_none (by omega)]

set_option maxRecDepth 100000 in
set_option maxHeartbeats 4000000 in
theorem fnNames_walk (a : Option Addr) (len cap : Nat) (w : World) (h : Bytes a len w) :
    Calls Try.prog 3 #[.slice a len cap] w fun e w' => e = .returned (.bool true) ∧ Below w.heap.size w w' := by
  have hg := big_any a len cap w
  have hdr := drawNameOf_any a len cap w h
  clear h
  by_cases hbig : 1048576 < len
  · rw [decide_eq_true hbig] at hg
    go_enter Try.func3, Try.ntmps3
    go_wp2_with fail
    refine hg.mono ?_
    rintro e w1 ⟨rfl, rfl⟩
    go_wp2_with fail
    go_ret
    exact ⟨rfl, Below.refl _ _⟩
  rw [decide_eq_false hbig] at hg
  clear hbig
  go_enter Try.func3, Try.ntmps3
  go_wp2_with fail
  refine hg.mono ?_
  rintro e w0 ⟨rfl, rfl⟩
  clear hg
  go_wp2_with fail
  refine hdr.mono ?_
  rintro e w1 ⟨L, v, rfl, hL9, ho, hb⟩
  clear hdr
  obtain ⟨a1, c1, rfl, hpx⟩ := own_pxL ho
  have HO1 := hide ho
  have HB1 := hide hb
  clear ho hb
  have cS := fun w' h' => specNameOf_any a1 L.length c1 (fun q => L.getD q 0) (by omega) w' h'
  have cI := fun a' c' w' h' => implNameOf_any a' L.length c' (fun q => L.getD q 0) (by omega) w' h'
  rw [fl_getD] at cS
  rw [fl_getD] at cI
  have HNB := hide (names_back L)
  have HNM : Hid (nmS L = strOfNums (nmA L)) := rfl
  have cG := fun w' => implSigns_any (nmS L) w'
  have cQ := fun a' c' a'' c'' w' => sameInts_any a' a'' L.length c' c'' (fun q => L.getD q 0) (by omega) w'
  by_cases hA : nmA L = [] ∧ L ≠ []
  · have hn0 : nmS L = ⟨#[]⟩ := by rw [HNM.out, hA.1]; rfl
    rw [hn0] at cS cI
    have hl0 : (0 : Int) < (L.length : Int) := by
      have := List.length_pos_iff.2 hA.2
      omega
    clear cG HNB HNM hn0 hA
    go_wp2_with fail
    refine (cS _ hpx).mono ?_
    rintro e w2 ⟨rfl, hb⟩
    have hpx2 := hpx.below hb
    have HB2 := hide (bnext HB1.out (Nat.le_refl _) hb)
    clear hb hpx
    go_wp2_with fail
    refine (cI _ _ _ hpx2).mono ?_
    rintro e w3 ⟨rfl, hb⟩
    have HB3 := hide (bnext HB2.out (Nat.le_refl _) hb)
    clear hb hpx2
    go_wp2_with fail
    go_ret
    exact ⟨rfl, HB3.out⟩
  · have hor : nmA L ≠ [] ∨ L = [] := by
      by_cases x : L = []
      · exact .inr x
      · exact .inl (fun y => hA ⟨y, x⟩)
    have hcut : ((nmS L).toList.isEmpty = false) ∨ L = [] := by
      rcases hor with x | x
      · left
        rw [HNM.out]
        cases hc : nmA L with
        | nil => exact absurd hc x
        | cons y t =>
          rw [ByteArray.toList_eq, strOfNums_data]
          rfl
      · exact .inr x
    have hback := HNB.out hor
    rw [hback] at cG
    clear hor hA HNB hback HNM
    obtain ⟨Z, hZ⟩ : ∃ Z, Z = nmS L := ⟨_, rfl⟩
    rw [← hZ] at cS cI cG hcut
    clear hZ
    go_wp2_with fail
    refine (cS _ hpx).mono ?_
    rintro e w2 ⟨rfl, hb⟩
    have HO2 := hide (owns_keep HO1.out (fun b hb' => hb.block b (owns_lt HO1.out b hb')))
    have HB2 := hide (bnext HB1.out (Nat.le_refl _) hb)
    clear hb hpx HO1 HB1
    have hE : Z.toList.isEmpty = false ∨ ¬ (0 : Int) < (L.length : Int) := hcut.imp id (fun x => by rw [x]; simp)
    clear hcut
    have HN : Hid (0 + L.length ≤ 1048576) := by show _ ≤ _; omega
    have rest : ∀ (W : World), W = w2 → True := fun _ _ => trivial
    clear rest
    cases hc : Z.toList.isEmpty with
    | false =>
      clear hE
      have HO3 := hide (HO2.out.alloc (.cells #[] 2))
      have HB3 := hide (bnext HB2.out (Nat.le_refl _) (bnew w2 (.cells #[] 2)))
      have HZ3 := hide HB3.out.size
      go_wp2_with (refine growCat _ rfl _ _ rfl w2.heap.size _ 0 [] rfl (w2.alloc (.cells #[] 2)) (own_start0 w2 w2.heap.size (Nat.le_refl _)) (Below.refl _ _) (Nat.le_of_lt (by simp)) _ _ L.length L rfl HO3.out HN.out ?_)
      intro v' w4 ho4 hb4
      obtain ⟨a4, c4, rfl, hpx4⟩ := own_pxL ho4
      have HB4 := hide (bnext HB2.out (Nat.le_refl _) ((bnew w2 (.cells #[] 2)).trans hb4))
      have HO4 := hide (owns_keep HO2.out (fun b hb' => ((bnew w2 (.cells #[] 2)).trans hb4).block b (owns_lt HO2.out b hb')))
      clear ho4 hb4 HO2 HB2 HO3 HB3 HZ3
      go_wp2_with fail
      refine (cI _ _ _ hpx4).mono ?_
      rintro e w5 ⟨rfl, hb⟩
      have HB5 := hide (bnext HB4.out (Nat.le_refl _) hb)
      have HO5 := hide (owns_keep HO4.out (fun b hb' => hb.block b (owns_lt HO4.out b hb')))
      clear hb hpx4 HB4 HO4
      go_wp2_with fail
      refine (cG _).mono ?_
      rintro e w6 ⟨v6, rfl, ho6, hb⟩
      have HB6 := hide (bnext HB5.out (Nat.le_refl _) hb)
      have HO6 := hide (owns_keep HO5.out (fun b hb' => hb.block b (owns_lt HO5.out b hb')))
      obtain ⟨a6, c6, rfl, hpx6⟩ := own_pxL ho6
      obtain ⟨a7, c7, e7, hpx7⟩ := own_pxL HO6.out
      cases e7
      clear hb ho6 HB5 HO5 HO6
      go_wp2_with fail
      refine (cQ _ _ _ _ _ hpx6 hpx7).mono ?_
      rintro e w8 ⟨rfl, n, rfl⟩
      have HB8 := hide (below_drewN HB6.out n)
      clear HB6
      go_wp2_with fail
      go_ret
      exact ⟨rfl, HB8.out⟩
    | true =>
      have hl0 : ¬ (0 : Int) < (L.length : Int) := hE.resolve_left (by rw [hc]; exact Bool.noConfusion)
      clear hE
      have HO3 := hide (HO2.out.alloc (.cells #[] 2))
      have HB3 := hide (bnext HB2.out (Nat.le_refl _) (bnew w2 (.cells #[] 2)))
      have HZ3 := hide HB3.out.size
      go_wp2_with (refine growCat _ rfl _ _ rfl w2.heap.size _ 0 [] rfl (w2.alloc (.cells #[] 2)) (own_start0 w2 w2.heap.size (Nat.le_refl _)) (Below.refl _ _) (Nat.le_of_lt (by simp)) _ _ L.length L rfl HO3.out HN.out ?_)
      intro v' w4 ho4 hb4
      obtain ⟨a4, c4, rfl, hpx4⟩ := own_pxL ho4
      have HB4 := hide (bnext HB2.out (Nat.le_refl _) ((bnew w2 (.cells #[] 2)).trans hb4))
      have HO4 := hide (owns_keep HO2.out (fun b hb' => ((bnew w2 (.cells #[] 2)).trans hb4).block b (owns_lt HO2.out b hb')))
      clear ho4 hb4 HO2 HB2 HO3 HB3 HZ3
      go_wp2_with fail
      refine (cI _ _ _ hpx4).mono ?_
      rintro e w5 ⟨rfl, hb⟩
      have HB5 := hide (bnext HB4.out (Nat.le_refl _) hb)
      have HO5 := hide (owns_keep HO4.out (fun b hb' => hb.block b (owns_lt HO4.out b hb')))
      clear hb hpx4 HB4 HO4
      go_wp2_with fail
      refine (cG _).mono ?_
      rintro e w6 ⟨v6, rfl, ho6, hb⟩
      have HB6 := hide (bnext HB5.out (Nat.le_refl _) hb)
      have HO6 := hide (owns_keep HO5.out (fun b hb' => hb.block b (owns_lt HO5.out b hb')))
      obtain ⟨a6, c6, rfl, hpx6⟩ := own_pxL ho6
      obtain ⟨a7, c7, e7, hpx7⟩ := own_pxL HO6.out
      cases e7
      clear hb ho6 HB5 HO5 HO6
      go_wp2_with fail
      refine (cQ _ _ _ _ _ hpx6 hpx7).mono ?_
      rintro e w8 ⟨rfl, n, rfl⟩
      have HB8 := hide (below_drewN HB6.out n)
      clear HB6
      go_wp2_with fail
      go_ret
      exact ⟨rfl, HB8.out⟩

end Go.Proofs.Yteadhhhhnihoaaa

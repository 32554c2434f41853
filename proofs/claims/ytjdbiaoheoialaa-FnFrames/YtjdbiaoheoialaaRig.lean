/- Is a frame, as one value, right. -/
import Derived.Test.YtjdbiaoheoialaaClm
import Derived.Test.YtjdbiaoheoialaaMap
namespace Go.Proofs.Ytjdbiaoheoialaa
open Go.RowKit Go.Lib
attribute [local go_sem ↓] Go.wp_at_zero Go.wp_at_succ

def detP (M : Nat → Int) : Nat → Int
  | 0 => 0
  | k + 1 => detP M k + M k * adjF M (3 * k)
theorem detP_end (M : Nat → Int) : detP M 3 = det9 M := by
  show 0 + M 0 * (M 4 * M 8 - M 5 * M 7) + M 1 * (M 5 * M 6 - M 3 * M 8) + M 2 * (M 3 * M 7 - M 4 * M 6) = _
  unfold det9
  have : M 1 * (M 5 * M 6 - M 3 * M 8) = -(M 1 * (M 3 * M 8 - M 5 * M 6)) := by rw [← Int.mul_neg]; congr 1; omega
  rw [this]
  omega
theorem detT_bd {M : Nat → Int} (hM : ∀ k, k < 9 → -1000000 ≤ M k ∧ M k ≤ 1000000) (k : Nat) (hk : k < 9) (j : Nat) : -2000000000000000000 ≤ M k * adjF M j ∧ M k * adjF M j ≤ 2000000000000000000 := by
  have h1 := hM k hk
  have h2 := adjF_bd hM j
  have := mul_bdA h1.1 h1.2 h2.1 h2.2
  omega
theorem detP_bd {M : Nat → Int} (hM : ∀ k, k < 9 → -1000000 ≤ M k ∧ M k ≤ 1000000) : ∀ k : Nat, k ≤ 3 → -(2000000000000000000 * (k : Int)) ≤ detP M k ∧ detP M k ≤ 2000000000000000000 * (k : Int)
  | 0, _ => by simp [detP]
  | k + 1, hk => by
    have h1 := detP_bd hM k (by omega)
    have h2 := detT_bd hM k (by omega) (3 * k)
    simp only [detP]
    omega
theorem det9_bd {M : Nat → Int} (hM : ∀ k, k < 9 → -1000000 ≤ M k ∧ M k ≤ 1000000) : -9223372036854775808 ≤ det9 M ∧ det9 M ≤ 9223372036854775807 := by
  have := detP_bd hM 3 (by omega)
  rw [detP_end] at this
  omega
/-- two words as cells -/
def cw (x : Int) : List Value := [.int .i64 (x / 18446744073709551616), .int .u64 (x % 18446744073709551616)]

set_option maxRecDepth 100000 in
set_option maxHeartbeats 8000000 in
theorem determinant_any (M : Nat → Int) (hM : ∀ k, k < 9 → -1000000 ≤ M k ∧ M k ≤ 1000000) (w : World) :
    Calls Try.prog 23 #[mat9 M] w fun e w' => e = .returned (wd (det9 M)) ∧ Below w.heap.size w w' := by
  have HS0 := hide ((((St.start w).box (c9 M) 44).box' [.int .i64 0, .int .u64 0] 55 (b := w.heap.size + 1) (by simp)).box' [.int .i64 0, .int .u64 0] 55 (b := w.heap.size + 1 + 1) (by simp))
  have HM := hide hM
  have cA := adjugate_any M hM
  have cC := column0_any (adjF M)

  unfold mat9 at cA cC ⊢
  unfold c9 at HS0
  clear hM
  go_enter Try.func23, Try.ntmps23
  go_wp2_with fail
  refine (cA _).mono ?_
  rintro e w1 ⟨rfl, hb⟩
  have HS1 := hide (HS0.out.next hb)
  have v0 := HS1.out.cell 2 rfl 0 rfl
  clear hb HS0 cA v0
  go_wp2_with fail
  refine (cC _).mono ?_
  rintro e w2 ⟨rfl, hb⟩
  have HS2 : Hid (St w [(w.heap.size + 1 + 1, cw (detP M 0)), (w.heap.size + 1, cw 0), (w.heap.size, c9 M)] [] w2) := HS1.out.next hb
  clear hb HS1 cC
  go_wp2_with fail
  go_loopw [4, 5, 10] (fun _ _ i wr => ∃ k : Nat, k ≤ 3 ∧ i = .int .i64 k ∧ St w [(w.heap.size + 1 + 1, cw (detP M k)), (w.heap.size + 1, cw 0), (w.heap.size, c9 M)] [] wr) (fun _ _ i _ => 3 - (intOf i).toNat)
  case atStart => exact ⟨0, by omega, rfl, HS2.out⟩
  case round =>
    obtain ⟨k, hk, rfl, hs⟩ := hrel
    clear HS2
    by_cases hlt : k < 3
    · have HS := hide hs
      clear hs hk
      rcases (show k = 0 ∨ k = 1 ∨ k = 2 by omega) with rfl | rfl | rfl
      · have vm := HS.out.cell 2 rfl 0 rfl
        have s0 := HS.out.cell 0 rfl 0 rfl
        have s1 := HS.out.cell 0 rfl 1 rfl
        have e0 := HS.out.free 0 rfl 0 rfl
        have e1 := HS.out.free 0 rfl 1 rfl
        have bm := HM.out 0 (by omega)
        have ba := adjF_bd HM.out 0
        have bt := detT_bd HM.out 0 (by omega) 0
        have bp := detP_bd HM.out 0 (by omega)
        have cP := wideProduct_any (M 0) (adjF M 0) (by omega) (by omega) (by omega)
        have cS := widePlus_any (detP M 0) (M 0 * adjF M 0) (by omega) (by omega)
        have hN : detP M 0 + M 0 * adjF M 0 = detP M 1 := rfl
        rw [hN] at cS
        unfold wd at cP cS
        have HX : Hid (∀ w3 w4, Below wr.drew.heap.size wr.drew w3 → Below w3.heap.size w3 w4 → Below wr.heap.size wr w4) := fun w3 w4 h3 h4 => bnext (Below.trans (Below.refl wr.heap.size wr).drew h3) (Nat.le_refl _) h4
        have HN : Hid (∀ w3 w4, Below wr.drew.heap.size wr.drew w3 → Below w3.heap.size w3 w4 → St w [(w.heap.size + 1 + 1, cw (detP M 1)), (w.heap.size + 1, cw 0), (w.heap.size, c9 M)] [] ((w4.setCell ⟨w.heap.size + 1 + 1, 0, none⟩ (.int .i64 (detP M 1 / 18446744073709551616))).setCell ⟨w.heap.size + 1 + 1, 1, none⟩ (.int .u64 (detP M 1 % 18446744073709551616)))) := fun w3 w4 h3 h4 =>
          St.fill (L1 := []) (St.fill (L1 := []) (HS.out.next (HX.out _ _ h3 h4)) 0 (.int .i64 (detP M 1 / 18446744073709551616))) 1 (.int .u64 (detP M 1 % 18446744073709551616))
        have HK1 : Hid (∀ w3, Below wr.drew.heap.size wr.drew w3 → (w3.cell? ⟨w.heap.size, 0, none⟩ = some (.int .i64 (M 0)) ∧ w3.cell? ⟨w.heap.size + 1 + 1, 0, none⟩ = some (.int .i64 (detP M 0 / 18446744073709551616)) ∧ w3.cell? ⟨w.heap.size + 1 + 1, 1, none⟩ = some (.int .u64 (detP M 0 % 18446744073709551616)))) := fun w3 h3 =>
          ⟨(HS.out.drew.next h3).cell 2 rfl 0 rfl, (HS.out.drew.next h3).cell 0 rfl 0 rfl, (HS.out.drew.next h3).cell 0 rfl 1 rfl⟩
        have HK2 : Hid (∀ w3 w4, Below wr.drew.heap.size wr.drew w3 → Below w3.heap.size w3 w4 → (w4.cell? ⟨w.heap.size, 0, none⟩ = some (.int .i64 (M 0)) ∧ w4.cell? ⟨w.heap.size + 1 + 1, 0, none⟩ = some (.int .i64 (detP M 0 / 18446744073709551616)) ∧ w4.cell? ⟨w.heap.size + 1 + 1, 1, none⟩ = some (.int .u64 (detP M 0 % 18446744073709551616))) ∧ w4.frozen? ⟨w.heap.size + 1 + 1, 0, none⟩ = false ∧ w4.frozen? ⟨w.heap.size + 1 + 1, 1, none⟩ = false) := fun w3 w4 h3 h4 =>
          ⟨⟨((HS.out.drew.next h3).next h4).cell 2 rfl 0 rfl, ((HS.out.drew.next h3).next h4).cell 0 rfl 0 rfl, ((HS.out.drew.next h3).next h4).cell 0 rfl 1 rfl⟩, ((HS.out.drew.next h3).next h4).free 0 rfl 0 rfl, ((HS.out.drew.next h3).next h4).free 0 rfl 1 rfl⟩
        change wr.cell? ⟨w.heap.size + 1 + 1, 0, none⟩ = some (.int .i64 (detP M 0 / 18446744073709551616)) at s0
        change wr.cell? ⟨w.heap.size + 1 + 1, 1, none⟩ = some (.int .u64 (detP M 0 % 18446744073709551616)) at s1
        clear hN HS HX HM bm ba bt bp hlt
        generalize detP M 1 / 18446744073709551616 = G1 at *
        generalize detP M 1 % 18446744073709551616 = L1 at *
        generalize detP M 0 / 18446744073709551616 = G0 at *
        generalize detP M 0 % 18446744073709551616 = L0 at *
        generalize M 0 * adjF M 0 / 18446744073709551616 = G2 at *
        generalize M 0 * adjF M 0 % 18446744073709551616 = L2 at *
        generalize M 0 = mk at *
        have ix : ∀ w, (Instr.index 46 (.agg #[.int .i64 (adjF M 0), .int .i64 (adjF M 3), .int .i64 (adjF M 6)]) (.int .i64 0)).run Try.prog w = .ok (.int .i64 (adjF M 0)) w := fun _ => rfl
        go_upto_region 5 with fail
        clear ix
        go_region_with (first
            | (go_at_call 43; with_reducible refine (cP _).mono ?_; rintro e w3 ⟨rfl, hb3⟩; obtain ⟨t0, t1, t2⟩ := HK1.out _ hb3)
            | (go_at_call 42; with_reducible refine (cS _).mono ?_; rintro e w4 ⟨rfl, hb4⟩; obtain ⟨⟨u0, u1, u2⟩, f0, f1⟩ := HK2.out _ _ hb3 hb4))
        all_goals
          have HZ := hide (HN.out _ _ hb3 hb4)
          clear vm s0 s1 e0 e1 cP cS HN HK1 HK2 hb3 hb4 t0 t1 t2 u0 u1 u2 f0 f1
          go_wp2_with fail
          exact ⟨⟨1, by omega, rfl, HZ.out⟩, by simp [intOf]⟩
      · have vm := HS.out.cell 2 rfl 1 rfl
        have s0 := HS.out.cell 0 rfl 0 rfl
        have s1 := HS.out.cell 0 rfl 1 rfl
        have e0 := HS.out.free 0 rfl 0 rfl
        have e1 := HS.out.free 0 rfl 1 rfl
        have bm := HM.out 1 (by omega)
        have ba := adjF_bd HM.out 3
        have bt := detT_bd HM.out 1 (by omega) 3
        have bp := detP_bd HM.out 1 (by omega)
        have cP := wideProduct_any (M 1) (adjF M 3) (by omega) (by omega) (by omega)
        have cS := widePlus_any (detP M 1) (M 1 * adjF M 3) (by omega) (by omega)
        have hN : detP M 1 + M 1 * adjF M 3 = detP M 2 := rfl
        rw [hN] at cS
        unfold wd at cP cS
        have HX : Hid (∀ w3 w4, Below wr.drew.heap.size wr.drew w3 → Below w3.heap.size w3 w4 → Below wr.heap.size wr w4) := fun w3 w4 h3 h4 => bnext (Below.trans (Below.refl wr.heap.size wr).drew h3) (Nat.le_refl _) h4
        have HN : Hid (∀ w3 w4, Below wr.drew.heap.size wr.drew w3 → Below w3.heap.size w3 w4 → St w [(w.heap.size + 1 + 1, cw (detP M 2)), (w.heap.size + 1, cw 0), (w.heap.size, c9 M)] [] ((w4.setCell ⟨w.heap.size + 1 + 1, 0, none⟩ (.int .i64 (detP M 2 / 18446744073709551616))).setCell ⟨w.heap.size + 1 + 1, 1, none⟩ (.int .u64 (detP M 2 % 18446744073709551616)))) := fun w3 w4 h3 h4 =>
          St.fill (L1 := []) (St.fill (L1 := []) (HS.out.next (HX.out _ _ h3 h4)) 0 (.int .i64 (detP M 2 / 18446744073709551616))) 1 (.int .u64 (detP M 2 % 18446744073709551616))
        have HK1 : Hid (∀ w3, Below wr.drew.heap.size wr.drew w3 → (w3.cell? ⟨w.heap.size, 1, none⟩ = some (.int .i64 (M 1)) ∧ w3.cell? ⟨w.heap.size + 1 + 1, 0, none⟩ = some (.int .i64 (detP M 1 / 18446744073709551616)) ∧ w3.cell? ⟨w.heap.size + 1 + 1, 1, none⟩ = some (.int .u64 (detP M 1 % 18446744073709551616)))) := fun w3 h3 =>
          ⟨(HS.out.drew.next h3).cell 2 rfl 1 rfl, (HS.out.drew.next h3).cell 0 rfl 0 rfl, (HS.out.drew.next h3).cell 0 rfl 1 rfl⟩
        have HK2 : Hid (∀ w3 w4, Below wr.drew.heap.size wr.drew w3 → Below w3.heap.size w3 w4 → (w4.cell? ⟨w.heap.size, 1, none⟩ = some (.int .i64 (M 1)) ∧ w4.cell? ⟨w.heap.size + 1 + 1, 0, none⟩ = some (.int .i64 (detP M 1 / 18446744073709551616)) ∧ w4.cell? ⟨w.heap.size + 1 + 1, 1, none⟩ = some (.int .u64 (detP M 1 % 18446744073709551616))) ∧ w4.frozen? ⟨w.heap.size + 1 + 1, 0, none⟩ = false ∧ w4.frozen? ⟨w.heap.size + 1 + 1, 1, none⟩ = false) := fun w3 w4 h3 h4 =>
          ⟨⟨((HS.out.drew.next h3).next h4).cell 2 rfl 1 rfl, ((HS.out.drew.next h3).next h4).cell 0 rfl 0 rfl, ((HS.out.drew.next h3).next h4).cell 0 rfl 1 rfl⟩, ((HS.out.drew.next h3).next h4).free 0 rfl 0 rfl, ((HS.out.drew.next h3).next h4).free 0 rfl 1 rfl⟩
        change wr.cell? ⟨w.heap.size + 1 + 1, 0, none⟩ = some (.int .i64 (detP M 1 / 18446744073709551616)) at s0
        change wr.cell? ⟨w.heap.size + 1 + 1, 1, none⟩ = some (.int .u64 (detP M 1 % 18446744073709551616)) at s1
        clear hN HS HX HM bm ba bt bp hlt
        generalize detP M 2 / 18446744073709551616 = G1 at *
        generalize detP M 2 % 18446744073709551616 = L1 at *
        generalize detP M 1 / 18446744073709551616 = G0 at *
        generalize detP M 1 % 18446744073709551616 = L0 at *
        generalize M 1 * adjF M 3 / 18446744073709551616 = G2 at *
        generalize M 1 * adjF M 3 % 18446744073709551616 = L2 at *
        generalize M 1 = mk at *
        have ix : ∀ w, (Instr.index 46 (.agg #[.int .i64 (adjF M 0), .int .i64 (adjF M 3), .int .i64 (adjF M 6)]) (.int .i64 1)).run Try.prog w = .ok (.int .i64 (adjF M 3)) w := fun _ => rfl
        go_upto_region 5 with fail
        clear ix
        go_region_with (first
            | (go_at_call 43; with_reducible refine (cP _).mono ?_; rintro e w3 ⟨rfl, hb3⟩; obtain ⟨t0, t1, t2⟩ := HK1.out _ hb3)
            | (go_at_call 42; with_reducible refine (cS _).mono ?_; rintro e w4 ⟨rfl, hb4⟩; obtain ⟨⟨u0, u1, u2⟩, f0, f1⟩ := HK2.out _ _ hb3 hb4))
        all_goals
          have HZ := hide (HN.out _ _ hb3 hb4)
          clear vm s0 s1 e0 e1 cP cS HN HK1 HK2 hb3 hb4 t0 t1 t2 u0 u1 u2 f0 f1
          go_wp2_with fail
          exact ⟨⟨2, by omega, rfl, HZ.out⟩, by simp [intOf]⟩
      · have vm := HS.out.cell 2 rfl 2 rfl
        have s0 := HS.out.cell 0 rfl 0 rfl
        have s1 := HS.out.cell 0 rfl 1 rfl
        have e0 := HS.out.free 0 rfl 0 rfl
        have e1 := HS.out.free 0 rfl 1 rfl
        have bm := HM.out 2 (by omega)
        have ba := adjF_bd HM.out 6
        have bt := detT_bd HM.out 2 (by omega) 6
        have bp := detP_bd HM.out 2 (by omega)
        have cP := wideProduct_any (M 2) (adjF M 6) (by omega) (by omega) (by omega)
        have cS := widePlus_any (detP M 2) (M 2 * adjF M 6) (by omega) (by omega)
        have hN : detP M 2 + M 2 * adjF M 6 = detP M 3 := rfl
        rw [hN] at cS
        unfold wd at cP cS
        have HX : Hid (∀ w3 w4, Below wr.drew.heap.size wr.drew w3 → Below w3.heap.size w3 w4 → Below wr.heap.size wr w4) := fun w3 w4 h3 h4 => bnext (Below.trans (Below.refl wr.heap.size wr).drew h3) (Nat.le_refl _) h4
        have HN : Hid (∀ w3 w4, Below wr.drew.heap.size wr.drew w3 → Below w3.heap.size w3 w4 → St w [(w.heap.size + 1 + 1, cw (detP M 3)), (w.heap.size + 1, cw 0), (w.heap.size, c9 M)] [] ((w4.setCell ⟨w.heap.size + 1 + 1, 0, none⟩ (.int .i64 (detP M 3 / 18446744073709551616))).setCell ⟨w.heap.size + 1 + 1, 1, none⟩ (.int .u64 (detP M 3 % 18446744073709551616)))) := fun w3 w4 h3 h4 =>
          St.fill (L1 := []) (St.fill (L1 := []) (HS.out.next (HX.out _ _ h3 h4)) 0 (.int .i64 (detP M 3 / 18446744073709551616))) 1 (.int .u64 (detP M 3 % 18446744073709551616))
        have HK1 : Hid (∀ w3, Below wr.drew.heap.size wr.drew w3 → (w3.cell? ⟨w.heap.size, 2, none⟩ = some (.int .i64 (M 2)) ∧ w3.cell? ⟨w.heap.size + 1 + 1, 0, none⟩ = some (.int .i64 (detP M 2 / 18446744073709551616)) ∧ w3.cell? ⟨w.heap.size + 1 + 1, 1, none⟩ = some (.int .u64 (detP M 2 % 18446744073709551616)))) := fun w3 h3 =>
          ⟨(HS.out.drew.next h3).cell 2 rfl 2 rfl, (HS.out.drew.next h3).cell 0 rfl 0 rfl, (HS.out.drew.next h3).cell 0 rfl 1 rfl⟩
        have HK2 : Hid (∀ w3 w4, Below wr.drew.heap.size wr.drew w3 → Below w3.heap.size w3 w4 → (w4.cell? ⟨w.heap.size, 2, none⟩ = some (.int .i64 (M 2)) ∧ w4.cell? ⟨w.heap.size + 1 + 1, 0, none⟩ = some (.int .i64 (detP M 2 / 18446744073709551616)) ∧ w4.cell? ⟨w.heap.size + 1 + 1, 1, none⟩ = some (.int .u64 (detP M 2 % 18446744073709551616))) ∧ w4.frozen? ⟨w.heap.size + 1 + 1, 0, none⟩ = false ∧ w4.frozen? ⟨w.heap.size + 1 + 1, 1, none⟩ = false) := fun w3 w4 h3 h4 =>
          ⟨⟨((HS.out.drew.next h3).next h4).cell 2 rfl 2 rfl, ((HS.out.drew.next h3).next h4).cell 0 rfl 0 rfl, ((HS.out.drew.next h3).next h4).cell 0 rfl 1 rfl⟩, ((HS.out.drew.next h3).next h4).free 0 rfl 0 rfl, ((HS.out.drew.next h3).next h4).free 0 rfl 1 rfl⟩
        change wr.cell? ⟨w.heap.size + 1 + 1, 0, none⟩ = some (.int .i64 (detP M 2 / 18446744073709551616)) at s0
        change wr.cell? ⟨w.heap.size + 1 + 1, 1, none⟩ = some (.int .u64 (detP M 2 % 18446744073709551616)) at s1
        clear hN HS HX HM bm ba bt bp hlt
        generalize detP M 3 / 18446744073709551616 = G1 at *
        generalize detP M 3 % 18446744073709551616 = L1 at *
        generalize detP M 2 / 18446744073709551616 = G0 at *
        generalize detP M 2 % 18446744073709551616 = L0 at *
        generalize M 2 * adjF M 6 / 18446744073709551616 = G2 at *
        generalize M 2 * adjF M 6 % 18446744073709551616 = L2 at *
        generalize M 2 = mk at *
        have ix : ∀ w, (Instr.index 46 (.agg #[.int .i64 (adjF M 0), .int .i64 (adjF M 3), .int .i64 (adjF M 6)]) (.int .i64 2)).run Try.prog w = .ok (.int .i64 (adjF M 6)) w := fun _ => rfl
        go_upto_region 5 with fail
        clear ix
        go_region_with (first
            | (go_at_call 43; with_reducible refine (cP _).mono ?_; rintro e w3 ⟨rfl, hb3⟩; obtain ⟨t0, t1, t2⟩ := HK1.out _ hb3)
            | (go_at_call 42; with_reducible refine (cS _).mono ?_; rintro e w4 ⟨rfl, hb4⟩; obtain ⟨⟨u0, u1, u2⟩, f0, f1⟩ := HK2.out _ _ hb3 hb4))
        all_goals
          have HZ := hide (HN.out _ _ hb3 hb4)
          clear vm s0 s1 e0 e1 cP cS HN HK1 HK2 hb3 hb4 t0 t1 t2 u0 u1 u2 f0 f1
          go_wp2_with fail
          exact ⟨⟨3, by omega, rfl, HZ.out⟩, by simp [intOf]⟩
    · obtain rfl : k = 3 := by omega
      have hd := detP_end M
      have hs' := hs
      rw [hd] at hs'
      have HS := hide hs'
      have y0 : wr.cell? ⟨w.heap.size + 1 + 1, 0, none⟩ = some (.int .i64 (det9 M / 18446744073709551616)) := HS.out.cell 0 rfl 0 rfl
      have y1 : wr.cell? ⟨w.heap.size + 1 + 1, 1, none⟩ = some (.int .u64 (det9 M % 18446744073709551616)) := HS.out.cell 0 rfl 1 rfl
      have z0 := HS.out.cell 1 rfl 0 rfl
      have z1 := HS.out.cell 1 rfl 1 rfl
      have e0 := HS.out.free 1 rfl 0 rfl
      have e1 := HS.out.free 1 rfl 1 rfl
      have HB := hide ((HS.out.below.setCell (p := ⟨w.heap.size + 1, 0, none⟩) (Nat.le_succ _) (.int .i64 (det9 M / 18446744073709551616))).setCell (p := ⟨w.heap.size + 1, 1, none⟩) (Nat.le_succ _) (.int .u64 (det9 M % 18446744073709551616)))
      clear hs hs' hd HS HM hk hlt
      go_wp2_with fail
      exact bodyPost_ret (v := .agg #[.int .i64 (det9 M / 18446744073709551616), .int .u64 (det9 M % 18446744073709551616)]) (by simp [results, Try.results23, go_sem, z0, z1]) rfl ⟨rfl, HB.out⟩

end Go.Proofs.Ytjdbiaoheoialaa

namespace Go.Proofs.Ytjdbiaoheoialaa
open Go.RowKit Go.Lib

def rightB (M T : Nat → Int) (D : Int) : Bool := limB M T D && (((mdiv M T D : Nat) : Int) == 1 && (sgn (det9 M) != 0))
theorem limB_parts {M T : Nat → Int} {D : Int} (h : limB M T D = true) : (∀ k, k < 9 → -1000000 ≤ M k ∧ M k ≤ 1000000) ∧ (∀ k, k < 3 → -1000000 ≤ T k ∧ T k ≤ 1000000) ∧ 1 ≤ D ∧ D ≤ 1000000 := by
  unfold limB at h
  simp only [Bool.and_eq_true] at h
  refine ⟨fun k hk => ?_, fun k hk => ?_, ?_⟩
  · have := alW_at h.1 hk
    unfold inB at this
    simpa using this
  · have := alW_at h.2.1 hk
    unfold inB at this
    simpa using this
  · have := h.2.2
    unfold inB at this
    simpa using this

set_option maxRecDepth 100000 in
set_option maxHeartbeats 4000000 in
theorem isRight_any (M T : Nat → Int) (D : Int) (w : World) :
    Calls Try.prog 34 #[mapV M T D] w fun e w' => e = .returned (.bool (rightB M T D)) ∧ Below w.heap.size w w' := by
  have HS0 := hide ((St.start w).box (c13 M T D) 48)
  have cL := isInLimits_any M T D
  unfold rightB
  unfold c13 at HS0
  cases hL : limB M T D
  · rw [hL] at cL
    clear hL
    unfold mapV at cL ⊢
    go_enter Try.func34, Try.ntmps34
    go_wp2_with fail
    refine (cL _).mono ?_
    rintro e w1 ⟨rfl, hb⟩
    have HB := hide (HS0.out.next hb).below
    clear hb cL HS0
    go_wp2_with fail
    go_ret
    exact ⟨rfl, HB.out⟩
  rw [hL] at cL
  obtain ⟨bM, bT, bD⟩ := limB_parts hL
  have cV := divisor_any M T D (fun k hk => by have := bM k hk; omega) (fun k hk => by have := bT k hk; omega) (by omega)
  have cD := determinant_any M bM
  have cS := wideSign_any (det9 M) (det9_bd bM)
  unfold mapV at cL cV ⊢
  unfold wd at cD cS
  unfold mat9 at cD
  clear bM bT bD hL
  generalize mdiv M T D = dv at *
  generalize det9 M / 18446744073709551616 = G at *
  generalize det9 M % 18446744073709551616 = L at *
  by_cases h1 : (dv : Int) = 1
  · have q1 : ((dv : Int) == 1) = true := beq_iff_eq.2 h1
    rw [q1]
    clear h1
    generalize sgn (det9 M) = sg at *
    go_enter Try.func34, Try.ntmps34
    go_wp2_with fail
    refine (cL _).mono ?_
    rintro e w1 ⟨rfl, hb⟩
    have HS1 := hide (HS0.out.next hb)
    clear hb cL HS0
    have v0 := HS1.out.cell 0 rfl 0 rfl
    have v1 := HS1.out.cell 0 rfl 1 rfl
    have v2 := HS1.out.cell 0 rfl 2 rfl
    have v3 := HS1.out.cell 0 rfl 3 rfl
    have v4 := HS1.out.cell 0 rfl 4 rfl
    have v5 := HS1.out.cell 0 rfl 5 rfl
    have v6 := HS1.out.cell 0 rfl 6 rfl
    have v7 := HS1.out.cell 0 rfl 7 rfl
    have v8 := HS1.out.cell 0 rfl 8 rfl
    have v9 := HS1.out.cell 0 rfl 9 rfl
    have v10 := HS1.out.cell 0 rfl 10 rfl
    have v11 := HS1.out.cell 0 rfl 11 rfl
    have v12 := HS1.out.cell 0 rfl 12 rfl
    go_wp2_with fail
    refine (cV _).mono ?_
    rintro e w2 ⟨rfl, hb⟩
    have HS2 := hide (HS1.out.next hb)
    clear hb cV HS1 v0 v1 v2 v3 v4 v5 v6 v7 v8 v9 v10 v11 v12
    have v0 := HS2.out.cell 0 rfl 0 rfl
    have v1 := HS2.out.cell 0 rfl 1 rfl
    have v2 := HS2.out.cell 0 rfl 2 rfl
    have v3 := HS2.out.cell 0 rfl 3 rfl
    have v4 := HS2.out.cell 0 rfl 4 rfl
    have v5 := HS2.out.cell 0 rfl 5 rfl
    have v6 := HS2.out.cell 0 rfl 6 rfl
    have v7 := HS2.out.cell 0 rfl 7 rfl
    have v8 := HS2.out.cell 0 rfl 8 rfl
    have v9 := HS2.out.cell 0 rfl 9 rfl
    have v10 := HS2.out.cell 0 rfl 10 rfl
    have v11 := HS2.out.cell 0 rfl 11 rfl
    have v12 := HS2.out.cell 0 rfl 12 rfl
    go_wp2_with fail
    refine (cD _).mono ?_
    rintro e w3 ⟨rfl, hb⟩
    have HS3 := hide (HS2.out.next hb)
    clear hb cD HS2 v0 v1 v2 v3 v4 v5 v6 v7 v8 v9 v10 v11 v12
    go_wp2_with fail
    refine (cS _).mono ?_
    rintro e w4 ⟨rfl, hb⟩
    have HB := hide (HS3.out.next hb).below
    clear hb cS HS3
    go_wp2_with fail
    go_ret
    exact ⟨by simp, HB.out⟩
  · have q1 : ((dv : Int) == 1) = false := beq_eq_false_iff_ne.2 h1
    rw [q1]
    clear h1 cD cS
    go_enter Try.func34, Try.ntmps34
    go_wp2_with fail
    refine (cL _).mono ?_
    rintro e w1 ⟨rfl, hb⟩
    have HS1 := hide (HS0.out.next hb)
    clear hb cL HS0
    have v0 := HS1.out.cell 0 rfl 0 rfl
    have v1 := HS1.out.cell 0 rfl 1 rfl
    have v2 := HS1.out.cell 0 rfl 2 rfl
    have v3 := HS1.out.cell 0 rfl 3 rfl
    have v4 := HS1.out.cell 0 rfl 4 rfl
    have v5 := HS1.out.cell 0 rfl 5 rfl
    have v6 := HS1.out.cell 0 rfl 6 rfl
    have v7 := HS1.out.cell 0 rfl 7 rfl
    have v8 := HS1.out.cell 0 rfl 8 rfl
    have v9 := HS1.out.cell 0 rfl 9 rfl
    have v10 := HS1.out.cell 0 rfl 10 rfl
    have v11 := HS1.out.cell 0 rfl 11 rfl
    have v12 := HS1.out.cell 0 rfl 12 rfl
    go_wp2_with fail
    refine (cV _).mono ?_
    rintro e w2 ⟨rfl, hb⟩
    have HB := hide (HS1.out.next hb).below
    clear hb cV HS1 v0 v1 v2 v3 v4 v5 v6 v7 v8 v9 v10 v11 v12
    go_wp2_with fail
    go_ret
    exact ⟨rfl, HB.out⟩

end Go.Proofs.Ytjdbiaoheoialaa
